/- Merged texts: ClaV. -/
import Derived.Test.YtpoinhjkdgcnaaaDoorMbh
import Derived.Deep.DeepCutAuto
/- The walk of ClashOr over what package clash is to answer. -/
namespace Go.Proofs.YtpoinhjkdgcnaaaDoor
open Go.RowKit
set_option linter.unusedVariables false
set_option linter.unusedSimpArgs false

set_option maxRecDepth 100000 in
set_option maxHeartbeats 4000000 in
theorem clashOr_asleep (AL AT AP : Option Addr) (n cL k cT m cP : Nat) (c i : Int) (w : World) (CA : Hid (∀ W, Below w.heap.size w W → Calls Tryd.prog 9 #[] W (Ret W (.bool true)))) (CS : Hid (∀ W, Below w.heap.size w W → Calls Tryd.prog 8 #[.agg #[.slice AL n cL, .slice AT k cT, .int .i64 c, .int .i64 i, .slice AP m cP]] W (Ret W (.bool false)))) : Calls Tryd.prog 6 #[.agg #[.slice AL n cL, .slice AT k cT, .int .i64 c, .int .i64 i, .slice AP m cP]] w (Ret w (.bool true)) := by
  obtain ⟨w0, hw0⟩ : ∃ x, x = w.alloc (.cells #[.slice AL n cL, .slice AT k cT, .int .i64 c, .int .i64 i, .slice AP m cP] 28) := ⟨_, rfl⟩
  have hB0 : Below w.heap.size w w0 := by rw [hw0]; exact below_al (Below.refl _ _) _
  have hk0 : Blk w0 w.heap.size [.slice AL n cL, .slice AT k cT, .int .i64 c, .int .i64 i, .slice AP m cP] 28 := by rw [hw0]; exact Blk.new w _ _
  have hw1 : w.alloc (.cells #[.slice AL n cL, .slice AT k cT, .int .i64 c, .int .i64 i, .slice AP m cP] 28) = w0 := hw0.symm
  clear hw0
  go_enter Tryd.func6, Tryd.ntmps6
  go_upto_region 1 with fail
  try rw [hw1]
  clear hw1
  go_wp2_with (first
    | ((with_reducible refine at_load 28 (.tmp 1) ?_); refine wpList_load_mid rfl 28 (.tmp 1) rfl (w.heap.size) 0 (by first | rfl | simp [Act.eval]) [.slice AL n cL, .slice AT k cT, .int .i64 c, .int .i64 i, .slice AP m cP] _ (Blk.range hk0) Tryd.underlying28 rfl (by kernel_rfl) ?_)
    | (go_at_call 8; refine (CS.out _ hB0).mono ?_; rintro e' x1 ⟨rfl, d1⟩)
    | (go_at_call 9; refine (CA.out _ (below_more hB0 d1)).mono ?_; rintro e' v9 ⟨rfl, d9⟩))
  go_ret
  exact ⟨rfl, below_more (below_more hB0 d1) d9⟩
set_option maxRecDepth 100000 in
set_option maxHeartbeats 4000000 in
theorem clashOr_none (AL AT AP : Option Addr) (n cL k cT m cP : Nat) (c i : Int) (w : World) (CA : Hid (∀ W, Below w.heap.size w W → Calls Tryd.prog 9 #[] W (Ret W (.bool true)))) (CS : Hid (∀ W, Below w.heap.size w W → Calls Tryd.prog 8 #[.agg #[.slice AL n cL, .slice AT k cT, .int .i64 c, .int .i64 i, .slice AP m cP]] W (Ret W (.bool true)))) (h1 : n = 0) : Calls Tryd.prog 6 #[.agg #[.slice AL n cL, .slice AT k cT, .int .i64 c, .int .i64 i, .slice AP m cP]] w (Ret w (.bool true)) := by
  subst h1
  obtain ⟨w0, hw0⟩ : ∃ x, x = w.alloc (.cells #[.slice AL 0 cL, .slice AT k cT, .int .i64 c, .int .i64 i, .slice AP m cP] 28) := ⟨_, rfl⟩
  have hB0 : Below w.heap.size w w0 := by rw [hw0]; exact below_al (Below.refl _ _) _
  have hk0 : Blk w0 w.heap.size [.slice AL 0 cL, .slice AT k cT, .int .i64 c, .int .i64 i, .slice AP m cP] 28 := by rw [hw0]; exact Blk.new w _ _
  have hw1 : w.alloc (.cells #[.slice AL 0 cL, .slice AT k cT, .int .i64 c, .int .i64 i, .slice AP m cP] 28) = w0 := hw0.symm
  clear hw0
  have s0 := fun (W : World) (h : Blk W w.heap.size [.slice AL 0 cL, .slice AT k cT, .int .i64 c, .int .i64 i, .slice AP m cP] 28) => h.cell 0
  have K1 : Hid (∀ W, Blk W w.heap.size [.slice AL 0 cL, .slice AT k cT, .int .i64 c, .int .i64 i, .slice AP m cP] 28 → W.cell? ⟨w.heap.size, 0, none⟩ = some (.slice AL 0 cL) ∧ W.cell? ⟨w.heap.size, 1, none⟩ = some (.slice AT k cT)) := Lib.hid fun W h => ⟨h.cell 0, h.cell 1⟩
  clear s0
  go_enter Tryd.func6, Tryd.ntmps6
  go_upto_region 1 with fail
  try rw [hw1]
  clear hw1
  go_wp2_with (first
    | ((with_reducible refine at_load 28 (.tmp 1) ?_); refine wpList_load_mid rfl 28 (.tmp 1) rfl (w.heap.size) 0 (by first | rfl | simp [Act.eval]) [.slice AL 0 cL, .slice AT k cT, .int .i64 c, .int .i64 i, .slice AP m cP] _ (Blk.range hk0) Tryd.underlying28 rfl (by kernel_rfl) ?_)
    | (go_at_call 8; refine (CS.out _ hB0).mono ?_; rintro e' x1 ⟨rfl, d1⟩; obtain ⟨s0, s1⟩ := K1.out _ (hk0.up d1))
    | (go_at_call 9; refine (CA.out _ (below_more hB0 d1)).mono ?_; rintro e' v9 ⟨rfl, d9⟩))
  go_ret
  exact ⟨rfl, below_more (below_more hB0 d1) d9⟩
set_option maxRecDepth 100000 in
set_option maxHeartbeats 4000000 in
theorem clashOr_sixty (AL AT AP : Option Addr) (n cL k cT m cP : Nat) (c i : Int) (w : World) (CA : Hid (∀ W, Below w.heap.size w W → Calls Tryd.prog 9 #[] W (Ret W (.bool true)))) (CS : Hid (∀ W, Below w.heap.size w W → Calls Tryd.prog 8 #[.agg #[.slice AL n cL, .slice AT k cT, .int .i64 c, .int .i64 i, .slice AP m cP]] W (Ret W (.bool true)))) (h1 : ((n : Int) == 0) = false) (h2 : k = 64) : Calls Tryd.prog 6 #[.agg #[.slice AL n cL, .slice AT k cT, .int .i64 c, .int .i64 i, .slice AP m cP]] w (Ret w (.bool true)) := by
  subst h2
  obtain ⟨w0, hw0⟩ : ∃ x, x = w.alloc (.cells #[.slice AL n cL, .slice AT 64 cT, .int .i64 c, .int .i64 i, .slice AP m cP] 28) := ⟨_, rfl⟩
  have hB0 : Below w.heap.size w w0 := by rw [hw0]; exact below_al (Below.refl _ _) _
  have hk0 : Blk w0 w.heap.size [.slice AL n cL, .slice AT 64 cT, .int .i64 c, .int .i64 i, .slice AP m cP] 28 := by rw [hw0]; exact Blk.new w _ _
  have hw1 : w.alloc (.cells #[.slice AL n cL, .slice AT 64 cT, .int .i64 c, .int .i64 i, .slice AP m cP] 28) = w0 := hw0.symm
  clear hw0
  have s0 := fun (W : World) (h : Blk W w.heap.size [.slice AL n cL, .slice AT 64 cT, .int .i64 c, .int .i64 i, .slice AP m cP] 28) => h.cell 0
  have K1 : Hid (∀ W, Blk W w.heap.size [.slice AL n cL, .slice AT 64 cT, .int .i64 c, .int .i64 i, .slice AP m cP] 28 → W.cell? ⟨w.heap.size, 0, none⟩ = some (.slice AL n cL) ∧ W.cell? ⟨w.heap.size, 1, none⟩ = some (.slice AT 64 cT)) := Lib.hid fun W h => ⟨h.cell 0, h.cell 1⟩
  clear s0
  go_enter Tryd.func6, Tryd.ntmps6
  go_upto_region 1 with fail
  try rw [hw1]
  clear hw1
  go_wp2_with (first
    | ((with_reducible refine at_load 28 (.tmp 1) ?_); refine wpList_load_mid rfl 28 (.tmp 1) rfl (w.heap.size) 0 (by first | rfl | simp [Act.eval]) [.slice AL n cL, .slice AT 64 cT, .int .i64 c, .int .i64 i, .slice AP m cP] _ (Blk.range hk0) Tryd.underlying28 rfl (by kernel_rfl) ?_)
    | (go_at_call 8; refine (CS.out _ hB0).mono ?_; rintro e' x1 ⟨rfl, d1⟩; obtain ⟨s0, s1⟩ := K1.out _ (hk0.up d1))
    | (go_at_call 9; refine (CA.out _ (below_more hB0 d1)).mono ?_; rintro e' v9 ⟨rfl, d9⟩))
  go_ret
  exact ⟨rfl, below_more (below_more hB0 d1) d9⟩
set_option maxRecDepth 100000 in
set_option maxHeartbeats 4000000 in
theorem clashOr_walk (AL AT AP : Option Addr) (n cL k cT m cP ck : Nat) (c i : Int) (T : List (List UInt8)) (x a b : List UInt8) (ok : Bool) (RV XV : List Value) (w : World) (CA : Hid (∀ W, Below w.heap.size w W → Calls Tryd.prog 9 #[] W (Ret W (.bool true)))) (CS : Hid (∀ W, Below w.heap.size w W → Calls Tryd.prog 8 #[.agg #[.slice AL n cL, .slice AT k cT, .int .i64 c, .int .i64 i, .slice AP m cP]] W (Ret W (.bool true)))) (GE : Hid (∀ W, Below w.heap.size w W → Calls Tryd.prog 17 #[.slice AL n cL, .slice AT k cT, .agg #[.int .i64 c, .int .i64 i, .slice AP m cP]] W fun e w' => ∃ A1 n1 c1 A2 n2 c2, e = .returned (.tuple #[.slice A1 n1 c1, .slice A2 n2 c2, .bool ok]) ∧ (Rd w' A1 n1 a ∧ n1 ≤ c1 ∧ c1 ≤ maxLen) ∧ (Rd w' A2 n2 b ∧ n2 ≤ c2 ∧ c2 ≤ maxLen) ∧ Below W.heap.size W w')) (CT : Hid (∀ (W : World) (A1 : Option Addr) (n1 c1 : Nat) (z : List UInt8), Below w.heap.size w W → Rd W A1 n1 z → n1 ≤ c1 → c1 ≤ maxLen → z.length ≤ 100000 → Calls Tryd.prog 19 #[.slice (some ⟨W.heap.size, 0, none⟩) 1 1] (W.alloc (.cells #[.slice A1 n1 c1] 23)) (Ret (W.alloc (.cells #[.slice A1 n1 c1] 23)) (.agg ((ds z).map B8).toArray)))) (SU : Hid (∀ W, Below w.heap.size w W → Calls Tryd.prog 22 #[.slice AL n cL] W fun e w' => ∃ A' c', e = .returned (.slice A' n c') ∧ RdH w' A' n (sums T) ∧ n ≤ c' ∧ c' ≤ maxLen ∧ Below W.heap.size W w')) (RT : Hid (∀ (W : World) (A' : Option Addr) (c' : Nat), Below w.heap.size w W → RdH W A' n (sums T) → n ≤ c' → c' ≤ maxLen → Calls Tryd.prog 21 #[.slice A' n c'] W (Ret W (.agg RV.toArray)))) (CT2 : Hid (∀ (W : World) (g : Nat), Below w.heap.size w W → RdM W (some ⟨g, 0, none⟩) 1 [x] → Calls Tryd.prog 19 #[.slice (some ⟨g, 0, none⟩) 1 1] W (Ret W (.agg XV.toArray)))) (CK : Hid (∀ W, Below w.heap.size w W → Calls Tryd.prog 20 #[.agg #[.int .i64 c, .int .i64 i, .slice AP m cP], .agg RV.toArray, .agg XV.toArray] W (Ret W (.int .i64 (ck : Int))))) (HOR : Hid ((∀ t ∈ T, t.length ≠ 64) → ck = 0 → (0 ≤ i ∧ i < n ∧ hat T i.toNat = x) ∨ (ok = true ∧ a ≠ b ∧ ds a = ds b ∧ a.length ≤ 100000 ∧ b.length ≤ 100000))) (HL : Hid (RdM w AL n T)) (HX : Hid (Rd w AT k x)) (hkc : k ≤ cT) (hcm : cT ≤ maxLen) (n0 : ((n : Int) == 0) = false) (k64 : ((k : Int) == 64) = false) (hn : n ≤ 1000) :
    Calls Tryd.prog 6 #[.agg #[.slice AL n cL, .slice AT k cT, .int .i64 c, .int .i64 i, .slice AP m cP]] w (Ret w (.bool true)) := by
  have hln := HL.out.len
  have hcki : ((ck : Int) = 0) = (ck = 0) := by simp
  obtain ⟨w0, hw0⟩ : ∃ x, x = w.alloc (.cells #[.slice AL n cL, .slice AT k cT, .int .i64 c, .int .i64 i, .slice AP m cP] 28) := ⟨_, rfl⟩
  have hB0 : Below w.heap.size w w0 := by rw [hw0]; exact below_al (Below.refl _ _) _
  have hk0 : Blk w0 w.heap.size [.slice AL n cL, .slice AT k cT, .int .i64 c, .int .i64 i, .slice AP m cP] 28 := by rw [hw0]; exact Blk.new w _ _
  have hw1 : w.alloc (.cells #[.slice AL n cL, .slice AT k cT, .int .i64 c, .int .i64 i, .slice AP m cP] 28) = w0 := hw0.symm
  clear hw0
  go_enter Tryd.func6, Tryd.ntmps6
  go_upto_region 1 with fail
  try rw [hw1]
  clear hw1
  have K1 : Hid (∀ W, Blk W w.heap.size [.slice AL n cL, .slice AT k cT, .int .i64 c, .int .i64 i, .slice AP m cP] 28 → W.cell? ⟨w.heap.size, 0, none⟩ = some (.slice AL n cL) ∧ W.cell? ⟨w.heap.size, 1, none⟩ = some (.slice AT k cT)) := Lib.hid fun W h => ⟨h.cell 0, h.cell 1⟩
  clear hcki
  go_wp2_with (first
    | ((with_reducible refine at_load 28 (.tmp 1) ?_); refine wpList_load_mid rfl 28 (.tmp 1) rfl (w.heap.size) 0 (by first | rfl | simp [Act.eval]) [.slice AL n cL, .slice AT k cT, .int .i64 c, .int .i64 i, .slice AP m cP] _ (Blk.range hk0) Tryd.underlying28 rfl (by kernel_rfl) ?_)
    | (go_at_call 8; refine (CS.out _ hB0).mono ?_; rintro e' x1 ⟨rfl, d1⟩; obtain ⟨s0, s1⟩ := K1.out _ (hk0.up d1)))
  have hBx := below_more hB0 d1
  have hk1 := hk0.up d1
  clear hk0 d1 hB0 CS K1
  go_loopw [27] (fun kv wr => ∃ (t : Nat), kv = .int .i64 (t : Int) ∧ t ≤ n ∧ (∀ j (h : j < T.length), j < t → T[j].length ≠ 64) ∧ Below x1.heap.size x1 wr) (fun kv _ => n - (intOf kv).toNat)
  case atStart => exact ⟨0, by first | rfl | go_num, by omega, fun j _ hj => absurd hj (by omega), Below.refl _ _⟩
  case round =>
    obtain ⟨t, rfl, htn, hno, hbel⟩ := hrel
    obtain ⟨wo, hwo⟩ : ∃ x, x = wr := ⟨_, rfl⟩
    rw [← hwo] at hbel ⊢
    clear hwo s0 s1
    have HNO := Lib.hid hno
    have hBw := below_more hBx hbel
    clear hno
    by_cases hlt : t < n
    · have hlt' : (t : Int) < (n : Int) := by omega
      obtain ⟨b0, off, A3, m3, c3, hl, rfl, sc, h5, h6, hrd⟩ := (HL.out.below hBw).at_ hlt
      have hm3 : (T[t]).length = m3 := hrd.1
      by_cases hbig : m3 = 64
      · subst hbig
        clear hrd
        go_wp2_with (go_at_call 9; refine (CA.out _ hBw).mono ?_; rintro e' v9 ⟨rfl, d9⟩)
        go_ret
        exact ⟨rfl, below_more hBw d9⟩
      · have hbig' : ¬ (m3 : Int) = 64 := by omega
        have HN2 : Hid (∀ j (h : j < T.length), j < t + 1 → T[j].length ≠ 64) := Lib.hid fun j hj h => by
          rcases Nat.lt_or_ge j t with h7 | h7
          · exact HNO.out j hj h7
          · obtain rfl : j = t := by omega
            omega
        clear hm3 hrd
        go_wp2
        go_roundw
        case rel => exact ⟨t + 1, by go_num, by omega, HN2.out, hbel⟩
        case measure => simp [intOf]; omega
    · have hlt' : ¬ (t : Int) < (n : Int) := by omega
      have H64 : Hid (∀ t ∈ T, t.length ≠ 64) := Lib.hid fun t ht => by
        obtain ⟨j, hj, rfl⟩ := List.getElem_of_mem ht
        exact HNO.out j hj (by omega)
      have hko := hk1.up hbel
      have K9 : Hid (∀ W, Below wo.heap.size wo W → W.cell? ⟨w.heap.size, 0, none⟩ = some (.slice AL n cL) ∧ W.cell? ⟨w.heap.size, 1, none⟩ = some (.slice AT k cT) ∧ W.rangeAt (w.heap.size) (0 + 2) [.int .i64 c, .int .i64 i, .slice AP m cP]) := Lib.hid fun W h => ⟨(hko.up h).cell 0, (hko.up h).cell 1, case_mid (hko.up h)⟩
      obtain ⟨Z, hZ⟩ : ∃ Z, Z = decide (ck = 0) := ⟨_, rfl⟩
      have hcz : ((ck : Int) == 0) = Z := by rw [hZ]; by_cases h : ck = 0 <;> simp [h]
      have hcn : ((ck : Int) != 0) = !Z := by rw [bne, hcz]
      have HZ := Lib.hid hZ
      clear hZ
      go_upto_region 9 with fail
      go_cut [47] from 36 to 46 (fun bv wx => bv = .bool (!Z) ∧ Below wo.heap.size wo wx)
      case first =>
        refine wp_region_held_drew (S := fun W => W.cell? ⟨w.heap.size, 0, none⟩ = some (.slice AL n cL) ∧ W.cell? ⟨w.heap.size, 1, none⟩ = some (.slice AT k cT) ∧ W.rangeAt (w.heap.size) (0 + 2) [.int .i64 c, .int .i64 i, .slice AP m cP]) (by kernel_rfl) ?_ (fun hHeld => ?_)
        · exact K9.out _ (by ((repeat (first | with_reducible assumption | with_reducible exact Below.refl _ _ | with_reducible apply below_al | with_reducible apply below_dr | with_reducible refine below_more ?_ (by assumption)))))
        refine wpAnyH_take (i := 0) (v := ?_) rfl (by kernel_rfl) (by kernel_rfl) (by kernel_rfl) (fun _ _ _ h => h) (Or.inl ⟨by rfl, ?_⟩) (by assumption) ?_
        rotate_left 1
        · intro w hSw; (try dsimp only at hSw); simp only [List.getElem_toArray, List.getElem_cons_succ, List.getElem_cons_zero]; go_simp; try (with_reducible rfl)
        (try simp only [List.getElem_toArray, List.getElem_cons_succ, List.getElem_cons_zero, Act.put, List.setIfInBounds_toArray, List.set_cons_succ, List.set_cons_zero])
        refine wpAnyH_take (i := 1) rfl (by kernel_rfl) (by kernel_rfl) (by kernel_rfl) (fun _ _ _ h => h) (yieldsIf_load_mid (by rfl) _ _ rfl _ _ rfl [.int .i64 c, .int .i64 i, .slice AP m cP] _ (fun w hSw => by (try dsimp only at hSw); go_split_ands; assumption) Tryd.underlying26 rfl (by kernel_rfl)) (by assumption) ?_
        (try simp only [List.getElem_toArray, List.getElem_cons_succ, List.getElem_cons_zero, Act.put, List.setIfInBounds_toArray, List.set_cons_succ, List.set_cons_zero])
        refine wpAnyH_take (i := 2) (v := ?_) rfl (by kernel_rfl) (by kernel_rfl) (by kernel_rfl) (fun _ _ _ h => h) (Or.inl ⟨by rfl, ?_⟩) (by assumption) ?_
        rotate_left 1
        · intro w hSw; (try dsimp only at hSw); simp only [List.getElem_toArray, List.getElem_cons_succ, List.getElem_cons_zero]; go_simp; try (with_reducible rfl)
        (try simp only [List.getElem_toArray, List.getElem_cons_succ, List.getElem_cons_zero, Act.put, List.setIfInBounds_toArray, List.set_cons_succ, List.set_cons_zero])
        refine wpAnyH_take (i := 3) (v := ?_) rfl (by kernel_rfl) (by kernel_rfl) (by kernel_rfl) (fun _ _ _ h => h) (Or.inl ⟨by rfl, ?_⟩) (by assumption) ?_
        rotate_left 1
        · intro w hSw; (try dsimp only at hSw); simp only [List.getElem_toArray, List.getElem_cons_succ, List.getElem_cons_zero]; go_simp; try (with_reducible rfl)
        (try simp only [List.getElem_toArray, List.getElem_cons_succ, List.getElem_cons_zero, Act.put, List.setIfInBounds_toArray, List.set_cons_succ, List.set_cons_zero])
        refine wpAnyH_take (i := 6) (v := ?_) rfl (by kernel_rfl) (by kernel_rfl) (by kernel_rfl) (fun _ _ _ h => h) (Or.inl ⟨by rfl, ?_⟩) (by assumption) ?_
        rotate_left 1
        · intro w hSw; (try dsimp only at hSw); simp only [List.getElem_toArray, List.getElem_cons_succ, List.getElem_cons_zero]; go_simp; try (with_reducible rfl)
        (try simp only [List.getElem_toArray, List.getElem_cons_succ, List.getElem_cons_zero, Act.put, List.setIfInBounds_toArray, List.set_cons_succ, List.set_cons_zero])
        refine wpAnyH_take (i := 7) (v := ?_) rfl (by kernel_rfl) (by kernel_rfl) (by kernel_rfl) (fun _ _ _ h => h) (Or.inl ⟨by rfl, ?_⟩) (by assumption) ?_
        rotate_left 1
        · intro w hSw; (try dsimp only at hSw); simp only [List.getElem_toArray, List.getElem_cons_succ, List.getElem_cons_zero]; go_simp; try (with_reducible rfl)
        (try simp only [List.getElem_toArray, List.getElem_cons_succ, List.getElem_cons_zero, Act.put, List.setIfInBounds_toArray, List.set_cons_succ, List.set_cons_zero])
        refine wpAnyH_ready (rs := [4, 8]) (by kernel_rfl) (by simp) ?_
        refine AllReadyH.cons rfl (fun K hK => ?_) ?_
        · (try simp only [List.getElem_toArray, List.getElem_cons_succ, List.getElem_cons_zero])
          go_simp
          go_at_call 22; refine (SU.out _ (below_more hBw (by ((repeat (first | with_reducible assumption | with_reducible exact Below.refl _ _ | with_reducible apply below_al | with_reducible apply below_dr | with_reducible refine below_more ?_ (by assumption))))))).mono ?_; rintro e' y4 ⟨A4, c4, rfl, hr4, hc4, hm4, e4⟩
          (try (go_wp2_with fail))
          refine hK.out _ _ ?_ (fun hHeld => ?_)
          · exact K9.out _ (by ((repeat (first | with_reducible assumption | with_reducible exact Below.refl _ _ | with_reducible apply below_al | with_reducible apply below_dr | with_reducible refine below_more ?_ (by assumption)))))
          clear hK K
          (try simp only [Act.put, List.setIfInBounds_toArray, List.set_cons_succ, List.set_cons_zero])
          refine wpAnyH_ready (rs := [5, 8]) (by kernel_rfl) (by simp) ?_
          refine AllReadyH.cons rfl (fun K hK => ?_) ?_
          · (try simp only [List.getElem_toArray, List.getElem_cons_succ, List.getElem_cons_zero])
            go_simp
            go_at_call 21; refine (RT.out _ A4 c4 (below_more hBw (by ((repeat (first | with_reducible assumption | with_reducible exact Below.refl _ _ | with_reducible apply below_al | with_reducible apply below_dr | with_reducible refine below_more ?_ (by assumption)))))) (hr4.below (by ((repeat (first | with_reducible assumption | with_reducible exact Below.refl _ _ | with_reducible apply below_al | with_reducible apply below_dr | with_reducible refine below_more ?_ (by assumption)))))) hc4 hm4).mono ?_; rintro e' y5 ⟨rfl, e5⟩
            (try (go_wp2_with fail))
            refine hK.out _ _ ?_ (fun hHeld => ?_)
            · exact K9.out _ (by ((repeat (first | with_reducible assumption | with_reducible exact Below.refl _ _ | with_reducible apply below_al | with_reducible apply below_dr | with_reducible refine below_more ?_ (by assumption)))))
            clear hK K
            (try simp only [Act.put, List.setIfInBounds_toArray, List.set_cons_succ, List.set_cons_zero])
            refine wpAnyH_ready (rs := [8]) (by kernel_rfl) (by simp) ?_
            refine AllReadyH.cons rfl (fun K hK => ?_) AllReadyH.nil
            (try simp only [List.getElem_toArray, List.getElem_cons_succ, List.getElem_cons_zero])
            refine Eq.mpr (if_pos (by first | rfl | simp [Region.wanted, yielded, Act.put])) ?_
            refine wp_bsM _ rfl AT k cT x (by first | rfl | simp [Act.eval]) (HX.out.below (below_more hBw (by ((repeat (first | with_reducible assumption | with_reducible exact Below.refl _ _ | with_reducible apply below_al | with_reducible apply below_dr | with_reducible refine below_more ?_ (by assumption))))))) hkc hcm ?_
            intro g8 y8 hM8 hg8 e8
            refine hK.out _ _ ?_ (fun hHeld => ?_)
            · exact K9.out _ (by ((repeat (first | with_reducible assumption | with_reducible exact Below.refl _ _ | with_reducible apply below_al | with_reducible apply below_dr | with_reducible refine below_more ?_ (by assumption)))))
            clear hK K
            (try simp only [Act.put, List.setIfInBounds_toArray, List.set_cons_succ, List.set_cons_zero])
            refine wpAnyH_ready (rs := [9]) (by kernel_rfl) (by simp) ?_
            refine AllReadyH.cons rfl (fun K hK => ?_) AllReadyH.nil
            (try simp only [List.getElem_toArray, List.getElem_cons_succ, List.getElem_cons_zero])
            go_simp
            go_at_call 19; refine (CT2.out _ g8 (below_more hBw (by ((repeat (first | with_reducible assumption | with_reducible exact Below.refl _ _ | with_reducible apply below_al | with_reducible apply below_dr | with_reducible refine below_more ?_ (by assumption)))))) (hM8.below (by ((repeat (first | with_reducible assumption | with_reducible exact Below.refl _ _ | with_reducible apply below_al | with_reducible apply below_dr | with_reducible refine below_more ?_ (by assumption))))))).mono ?_; rintro e' y9 ⟨rfl, e9⟩
            (try (go_wp2_with fail))
            refine hK.out _ _ ?_ (fun hHeld => ?_)
            · exact K9.out _ (by ((repeat (first | with_reducible assumption | with_reducible exact Below.refl _ _ | with_reducible apply below_al | with_reducible apply below_dr | with_reducible refine below_more ?_ (by assumption)))))
            clear hK K
            (try simp only [Act.put, List.setIfInBounds_toArray, List.set_cons_succ, List.set_cons_zero])
            refine wpAnyH_ready (rs := [10]) (by kernel_rfl) (by simp) ?_
            refine AllReadyH.cons rfl (fun K hK => ?_) AllReadyH.nil
            (try simp only [List.getElem_toArray, List.getElem_cons_succ, List.getElem_cons_zero])
            go_simp
            go_at_call 20; refine (CK.out _ (below_more hBw (by ((repeat (first | with_reducible assumption | with_reducible exact Below.refl _ _ | with_reducible apply below_al | with_reducible apply below_dr | with_reducible refine below_more ?_ (by assumption))))))).mono ?_; rintro e' y10 ⟨rfl, e10⟩
            (try (go_wp2_with fail))
            refine hK.out _ _ ?_ (fun hHeld => ?_)
            · exact K9.out _ (by ((repeat (first | with_reducible assumption | with_reducible exact Below.refl _ _ | with_reducible apply below_al | with_reducible apply below_dr | with_reducible refine below_more ?_ (by assumption)))))
            clear hK K
            (try simp only [Act.put, List.setIfInBounds_toArray, List.set_cons_succ, List.set_cons_zero])
            refine wpAnyH_take (i := 11) (v := ?_) rfl (by kernel_rfl) (by kernel_rfl) (by kernel_rfl) (fun _ _ _ h => h) (Or.inl ⟨by rfl, ?_⟩) (by assumption) ?_
            rotate_left 1
            · intro w hSw; (try dsimp only at hSw); simp only [List.getElem_toArray, List.getElem_cons_succ, List.getElem_cons_zero]; go_simp; try (with_reducible rfl)
            (try simp only [List.getElem_toArray, List.getElem_cons_succ, List.getElem_cons_zero, Act.put, List.setIfInBounds_toArray, List.set_cons_succ, List.set_cons_zero])
            refine wpAnyH_done (by kernel_rfl) ?_ _
            go_wp2
            go_meet
            exact ⟨by first | rfl | simp, (by ((repeat (first | with_reducible assumption | with_reducible exact Below.refl _ _ | with_reducible apply below_al | with_reducible apply below_dr | with_reducible refine below_more ?_ (by assumption)))))⟩
          refine AllReadyH.cons rfl (fun K hK => ?_) AllReadyH.nil
          (try simp only [List.getElem_toArray, List.getElem_cons_succ, List.getElem_cons_zero])
          refine Eq.mpr (if_pos (by first | rfl | simp [Region.wanted, yielded, Act.put])) ?_
          refine wp_bsM _ rfl AT k cT x (by first | rfl | simp [Act.eval]) (HX.out.below (below_more hBw (by ((repeat (first | with_reducible assumption | with_reducible exact Below.refl _ _ | with_reducible apply below_al | with_reducible apply below_dr | with_reducible refine below_more ?_ (by assumption))))))) hkc hcm ?_
          intro g8 y8 hM8 hg8 e8
          refine hK.out _ _ ?_ (fun hHeld => ?_)
          · exact K9.out _ (by ((repeat (first | with_reducible assumption | with_reducible exact Below.refl _ _ | with_reducible apply below_al | with_reducible apply below_dr | with_reducible refine below_more ?_ (by assumption)))))
          clear hK K
          (try simp only [Act.put, List.setIfInBounds_toArray, List.set_cons_succ, List.set_cons_zero])
          refine wpAnyH_ready (rs := [5]) (by kernel_rfl) (by simp) ?_
          refine AllReadyH.cons rfl (fun K hK => ?_) AllReadyH.nil
          (try simp only [List.getElem_toArray, List.getElem_cons_succ, List.getElem_cons_zero])
          go_simp
          go_at_call 21; refine (RT.out _ A4 c4 (below_more hBw (by ((repeat (first | with_reducible assumption | with_reducible exact Below.refl _ _ | with_reducible apply below_al | with_reducible apply below_dr | with_reducible refine below_more ?_ (by assumption)))))) (hr4.below (by ((repeat (first | with_reducible assumption | with_reducible exact Below.refl _ _ | with_reducible apply below_al | with_reducible apply below_dr | with_reducible refine below_more ?_ (by assumption)))))) hc4 hm4).mono ?_; rintro e' y5 ⟨rfl, e5⟩
          (try (go_wp2_with fail))
          refine hK.out _ _ ?_ (fun hHeld => ?_)
          · exact K9.out _ (by ((repeat (first | with_reducible assumption | with_reducible exact Below.refl _ _ | with_reducible apply below_al | with_reducible apply below_dr | with_reducible refine below_more ?_ (by assumption)))))
          clear hK K
          (try simp only [Act.put, List.setIfInBounds_toArray, List.set_cons_succ, List.set_cons_zero])
          refine wpAnyH_ready (rs := [9]) (by kernel_rfl) (by simp) ?_
          refine AllReadyH.cons rfl (fun K hK => ?_) AllReadyH.nil
          (try simp only [List.getElem_toArray, List.getElem_cons_succ, List.getElem_cons_zero])
          go_simp
          go_at_call 19; refine (CT2.out _ g8 (below_more hBw (by ((repeat (first | with_reducible assumption | with_reducible exact Below.refl _ _ | with_reducible apply below_al | with_reducible apply below_dr | with_reducible refine below_more ?_ (by assumption)))))) (hM8.below (by ((repeat (first | with_reducible assumption | with_reducible exact Below.refl _ _ | with_reducible apply below_al | with_reducible apply below_dr | with_reducible refine below_more ?_ (by assumption))))))).mono ?_; rintro e' y9 ⟨rfl, e9⟩
          (try (go_wp2_with fail))
          refine hK.out _ _ ?_ (fun hHeld => ?_)
          · exact K9.out _ (by ((repeat (first | with_reducible assumption | with_reducible exact Below.refl _ _ | with_reducible apply below_al | with_reducible apply below_dr | with_reducible refine below_more ?_ (by assumption)))))
          clear hK K
          (try simp only [Act.put, List.setIfInBounds_toArray, List.set_cons_succ, List.set_cons_zero])
          refine wpAnyH_ready (rs := [10]) (by kernel_rfl) (by simp) ?_
          refine AllReadyH.cons rfl (fun K hK => ?_) AllReadyH.nil
          (try simp only [List.getElem_toArray, List.getElem_cons_succ, List.getElem_cons_zero])
          go_simp
          go_at_call 20; refine (CK.out _ (below_more hBw (by ((repeat (first | with_reducible assumption | with_reducible exact Below.refl _ _ | with_reducible apply below_al | with_reducible apply below_dr | with_reducible refine below_more ?_ (by assumption))))))).mono ?_; rintro e' y10 ⟨rfl, e10⟩
          (try (go_wp2_with fail))
          refine hK.out _ _ ?_ (fun hHeld => ?_)
          · exact K9.out _ (by ((repeat (first | with_reducible assumption | with_reducible exact Below.refl _ _ | with_reducible apply below_al | with_reducible apply below_dr | with_reducible refine below_more ?_ (by assumption)))))
          clear hK K
          (try simp only [Act.put, List.setIfInBounds_toArray, List.set_cons_succ, List.set_cons_zero])
          refine wpAnyH_take (i := 11) (v := ?_) rfl (by kernel_rfl) (by kernel_rfl) (by kernel_rfl) (fun _ _ _ h => h) (Or.inl ⟨by rfl, ?_⟩) (by assumption) ?_
          rotate_left 1
          · intro w hSw; (try dsimp only at hSw); simp only [List.getElem_toArray, List.getElem_cons_succ, List.getElem_cons_zero]; go_simp; try (with_reducible rfl)
          (try simp only [List.getElem_toArray, List.getElem_cons_succ, List.getElem_cons_zero, Act.put, List.setIfInBounds_toArray, List.set_cons_succ, List.set_cons_zero])
          refine wpAnyH_done (by kernel_rfl) ?_ _
          go_wp2
          go_meet
          exact ⟨by first | rfl | simp, (by ((repeat (first | with_reducible assumption | with_reducible exact Below.refl _ _ | with_reducible apply below_al | with_reducible apply below_dr | with_reducible refine below_more ?_ (by assumption)))))⟩
        refine AllReadyH.cons rfl (fun K hK => ?_) AllReadyH.nil
        (try simp only [List.getElem_toArray, List.getElem_cons_succ, List.getElem_cons_zero])
        refine Eq.mpr (if_pos (by first | rfl | simp [Region.wanted, yielded, Act.put])) ?_
        refine wp_bsM _ rfl AT k cT x (by first | rfl | simp [Act.eval]) (HX.out.below (below_more hBw (by ((repeat (first | with_reducible assumption | with_reducible exact Below.refl _ _ | with_reducible apply below_al | with_reducible apply below_dr | with_reducible refine below_more ?_ (by assumption))))))) hkc hcm ?_
        intro g8 y8 hM8 hg8 e8
        refine hK.out _ _ ?_ (fun hHeld => ?_)
        · exact K9.out _ (by ((repeat (first | with_reducible assumption | with_reducible exact Below.refl _ _ | with_reducible apply below_al | with_reducible apply below_dr | with_reducible refine below_more ?_ (by assumption)))))
        clear hK K
        (try simp only [Act.put, List.setIfInBounds_toArray, List.set_cons_succ, List.set_cons_zero])
        refine wpAnyH_ready (rs := [4]) (by kernel_rfl) (by simp) ?_
        refine AllReadyH.cons rfl (fun K hK => ?_) AllReadyH.nil
        (try simp only [List.getElem_toArray, List.getElem_cons_succ, List.getElem_cons_zero])
        go_simp
        go_at_call 22; refine (SU.out _ (below_more hBw (by ((repeat (first | with_reducible assumption | with_reducible exact Below.refl _ _ | with_reducible apply below_al | with_reducible apply below_dr | with_reducible refine below_more ?_ (by assumption))))))).mono ?_; rintro e' y4 ⟨A4, c4, rfl, hr4, hc4, hm4, e4⟩
        (try (go_wp2_with fail))
        refine hK.out _ _ ?_ (fun hHeld => ?_)
        · exact K9.out _ (by ((repeat (first | with_reducible assumption | with_reducible exact Below.refl _ _ | with_reducible apply below_al | with_reducible apply below_dr | with_reducible refine below_more ?_ (by assumption)))))
        clear hK K
        (try simp only [Act.put, List.setIfInBounds_toArray, List.set_cons_succ, List.set_cons_zero])
        refine wpAnyH_ready (rs := [5]) (by kernel_rfl) (by simp) ?_
        refine AllReadyH.cons rfl (fun K hK => ?_) AllReadyH.nil
        (try simp only [List.getElem_toArray, List.getElem_cons_succ, List.getElem_cons_zero])
        go_simp
        go_at_call 21; refine (RT.out _ A4 c4 (below_more hBw (by ((repeat (first | with_reducible assumption | with_reducible exact Below.refl _ _ | with_reducible apply below_al | with_reducible apply below_dr | with_reducible refine below_more ?_ (by assumption)))))) (hr4.below (by ((repeat (first | with_reducible assumption | with_reducible exact Below.refl _ _ | with_reducible apply below_al | with_reducible apply below_dr | with_reducible refine below_more ?_ (by assumption)))))) hc4 hm4).mono ?_; rintro e' y5 ⟨rfl, e5⟩
        (try (go_wp2_with fail))
        refine hK.out _ _ ?_ (fun hHeld => ?_)
        · exact K9.out _ (by ((repeat (first | with_reducible assumption | with_reducible exact Below.refl _ _ | with_reducible apply below_al | with_reducible apply below_dr | with_reducible refine below_more ?_ (by assumption)))))
        clear hK K
        (try simp only [Act.put, List.setIfInBounds_toArray, List.set_cons_succ, List.set_cons_zero])
        refine wpAnyH_ready (rs := [9]) (by kernel_rfl) (by simp) ?_
        refine AllReadyH.cons rfl (fun K hK => ?_) AllReadyH.nil
        (try simp only [List.getElem_toArray, List.getElem_cons_succ, List.getElem_cons_zero])
        go_simp
        go_at_call 19; refine (CT2.out _ g8 (below_more hBw (by ((repeat (first | with_reducible assumption | with_reducible exact Below.refl _ _ | with_reducible apply below_al | with_reducible apply below_dr | with_reducible refine below_more ?_ (by assumption)))))) (hM8.below (by ((repeat (first | with_reducible assumption | with_reducible exact Below.refl _ _ | with_reducible apply below_al | with_reducible apply below_dr | with_reducible refine below_more ?_ (by assumption))))))).mono ?_; rintro e' y9 ⟨rfl, e9⟩
        (try (go_wp2_with fail))
        refine hK.out _ _ ?_ (fun hHeld => ?_)
        · exact K9.out _ (by ((repeat (first | with_reducible assumption | with_reducible exact Below.refl _ _ | with_reducible apply below_al | with_reducible apply below_dr | with_reducible refine below_more ?_ (by assumption)))))
        clear hK K
        (try simp only [Act.put, List.setIfInBounds_toArray, List.set_cons_succ, List.set_cons_zero])
        refine wpAnyH_ready (rs := [10]) (by kernel_rfl) (by simp) ?_
        refine AllReadyH.cons rfl (fun K hK => ?_) AllReadyH.nil
        (try simp only [List.getElem_toArray, List.getElem_cons_succ, List.getElem_cons_zero])
        go_simp
        go_at_call 20; refine (CK.out _ (below_more hBw (by ((repeat (first | with_reducible assumption | with_reducible exact Below.refl _ _ | with_reducible apply below_al | with_reducible apply below_dr | with_reducible refine below_more ?_ (by assumption))))))).mono ?_; rintro e' y10 ⟨rfl, e10⟩
        (try (go_wp2_with fail))
        refine hK.out _ _ ?_ (fun hHeld => ?_)
        · exact K9.out _ (by ((repeat (first | with_reducible assumption | with_reducible exact Below.refl _ _ | with_reducible apply below_al | with_reducible apply below_dr | with_reducible refine below_more ?_ (by assumption)))))
        clear hK K
        (try simp only [Act.put, List.setIfInBounds_toArray, List.set_cons_succ, List.set_cons_zero])
        refine wpAnyH_take (i := 11) (v := ?_) rfl (by kernel_rfl) (by kernel_rfl) (by kernel_rfl) (fun _ _ _ h => h) (Or.inl ⟨by rfl, ?_⟩) (by assumption) ?_
        rotate_left 1
        · intro w hSw; (try dsimp only at hSw); simp only [List.getElem_toArray, List.getElem_cons_succ, List.getElem_cons_zero]; go_simp; try (with_reducible rfl)
        (try simp only [List.getElem_toArray, List.getElem_cons_succ, List.getElem_cons_zero, Act.put, List.setIfInBounds_toArray, List.set_cons_succ, List.set_cons_zero])
        refine wpAnyH_done (by kernel_rfl) ?_ _
        go_wp2
        go_meet
        exact ⟨by first | rfl | simp, (by ((repeat (first | with_reducible assumption | with_reducible exact Below.refl _ _ | with_reducible apply below_al | with_reducible apply below_dr | with_reducible refine below_more ?_ (by assumption)))))⟩
      case rest =>
        obtain ⟨rfl, hBel⟩ := hcut
        have hBc := below_more hBw hBel
        have K9c := Lib.hid fun (W : World) (h : Below wc.heap.size wc W) => K9.out W (below_more hBel h)
        have hkc5 := hko.up hBel
        cases hz : Z
        · go_wp2_with (go_at_call 9; refine (CA.out _ hBc).mono ?_; rintro e' v9 ⟨rfl, d9⟩)
          go_ret
          exact ⟨rfl, below_more hBc d9⟩
        · have hck0 : ck = 0 := of_decide_eq_true (by rw [← HZ.out, hz])
          have hres := HOR.out H64.out hck0
          have K11a : Hid (∀ W, Below wc.heap.size wc W → W.cell? ⟨w.heap.size, 0, none⟩ = some (.slice AL n cL) ∧ W.cell? ⟨w.heap.size, 1, none⟩ = some (.slice AT k cT) ∧ W.cell? ⟨w.heap.size, 3, none⟩ = some (.int .i64 i)) := Lib.hid fun W h => ⟨(hkc5.up h).cell 0, (hkc5.up h).cell 1, (hkc5.up h).cell 3⟩
          clear hcz hcn
          by_cases hi0 : 0 ≤ i
          · by_cases hi1 : i < (n : Int)
            · obtain ⟨j, rfl⟩ : ∃ j : Nat, i = (j : Int) := ⟨i.toNat, by omega⟩
              have hjn : j < n := by omega
              obtain ⟨b0, off, A3, m3, c3, hl, rfl, sc, h5, h6, hrd⟩ := (HL.out.below hBc).at_ hjn
              obtain ⟨y, hy⟩ : ∃ z0, z0 = T[j] := ⟨_, rfl⟩
              have hTy : hat T ((j : Int)).toNat = y := by rw [hy, Int.toNat_natCast]; unfold hat; rw [List.getD_eq_getElem?_getD, List.getElem?_eq_getElem hl]; rfl
              rw [← hy] at hrd
              rw [hTy] at hres
              have hbl := lt_of_cell sc
              have K11 : Hid (∀ W, Below wc.heap.size wc W → W.cell? ⟨w.heap.size, 0, none⟩ = some (.slice (some ⟨b0, off, none⟩) n cL) ∧ W.cell? ⟨w.heap.size, 1, none⟩ = some (.slice AT k cT) ∧ W.cell? ⟨w.heap.size, 3, none⟩ = some (.int .i64 (j : Int)) ∧ W.cell? ⟨b0, off + j, none⟩ = some (.slice A3 m3 c3) ∧ (convert 23 9 (.slice A3 m3 c3)).run Tryd.prog W = .ok (.string ⟨y.toArray⟩) W ∧ (convert 23 9 (.slice AT k cT)).run Tryd.prog W = .ok (.string ⟨x.toArray⟩) W) := Lib.hid fun W h => ⟨(hkc5.up h).cell 0, (hkc5.up h).cell 1, (hkc5.up h).cell 3, (h.cell (p := ⟨b0, off + j, none⟩) hbl).trans sc, conv8 W A3 m3 c3 y (hrd.below h), conv8 W AT k cT x (HX.out.below (below_more hBc h))⟩
              by_cases hyx : y = x
              · subst hyx
                have hsx := True.intro
                clear hres hy hTy hrd sc K11a
                go_upto_region 11 with fail
                refine wp_region_held_drew (S := fun W => W.cell? ⟨w.heap.size, 0, none⟩ = some (.slice (some ⟨b0, off, none⟩) n cL) ∧ W.cell? ⟨w.heap.size, 1, none⟩ = some (.slice AT k cT) ∧ W.cell? ⟨w.heap.size, 3, none⟩ = some (.int .i64 (j : Int)) ∧ W.cell? ⟨b0, off + j, none⟩ = some (.slice A3 m3 c3) ∧ (convert 23 9 (.slice A3 m3 c3)).run Tryd.prog W = .ok (.string ⟨y.toArray⟩) W ∧ (convert 23 9 (.slice AT k cT)).run Tryd.prog W = .ok (.string ⟨y.toArray⟩) W) (by kernel_rfl) ?_ (fun hHeld => ?_)
                · exact K11.out _ (below_dr (Below.refl _ _))
                refine wpAnyH_take (i := 0) (v := ?_) rfl (by kernel_rfl) (by kernel_rfl) (by kernel_rfl) (fun _ _ _ h => h) (Or.inl ⟨by rfl, ?_⟩) (by assumption) ?_
                rotate_left 1
                · intro w hSw; (try dsimp only at hSw); simp only [List.getElem_toArray, List.getElem_cons_succ, List.getElem_cons_zero]; go_simp; try (with_reducible rfl)
                (try simp only [List.getElem_toArray, List.getElem_cons_succ, List.getElem_cons_zero, Act.put, List.setIfInBounds_toArray, List.set_cons_succ, List.set_cons_zero])
                refine wpAnyH_take (i := 1) (v := ?_) rfl (by kernel_rfl) (by kernel_rfl) (by kernel_rfl) (fun _ _ _ h => h) (Or.inl ⟨by rfl, ?_⟩) (by assumption) ?_
                rotate_left 1
                · intro w hSw; (try dsimp only at hSw); simp only [List.getElem_toArray, List.getElem_cons_succ, List.getElem_cons_zero]; go_simp; try (with_reducible rfl)
                (try simp only [List.getElem_toArray, List.getElem_cons_succ, List.getElem_cons_zero, Act.put, List.setIfInBounds_toArray, List.set_cons_succ, List.set_cons_zero])
                refine wpAnyH_take (i := 2) (v := ?_) rfl (by kernel_rfl) (by kernel_rfl) (by kernel_rfl) (fun _ _ _ h => h) (Or.inl ⟨by rfl, ?_⟩) (by assumption) ?_
                rotate_left 1
                · intro w hSw; (try dsimp only at hSw); simp only [List.getElem_toArray, List.getElem_cons_succ, List.getElem_cons_zero]; go_simp; try (with_reducible rfl)
                (try simp only [List.getElem_toArray, List.getElem_cons_succ, List.getElem_cons_zero, Act.put, List.setIfInBounds_toArray, List.set_cons_succ, List.set_cons_zero])
                refine wpAnyH_take (i := 3) (v := .bool true) rfl (by kernel_rfl) (by kernel_rfl) (by kernel_rfl) (fun _ _ _ h => h) (Or.inl ⟨by rfl, ?_⟩) (by assumption) ?_
                · intro w hSw; (try dsimp only at hSw); simp only [List.getElem_toArray, List.getElem_cons_succ, List.getElem_cons_zero]; first | (go_simp; done) | (go_simp; exact hi0) | (go_simp; exact decide_eq_true hi0) | (go_simp; exact decide_eq_false hi0) | (go_simp; simp [hi0]; done) | (go_simp; omega)
                (try simp only [List.getElem_toArray, List.getElem_cons_succ, List.getElem_cons_zero, Act.put, List.setIfInBounds_toArray, List.set_cons_succ, List.set_cons_zero])
                refine wpAnyH_take (i := 4) (v := ?_) rfl (by kernel_rfl) (by kernel_rfl) (by kernel_rfl) (fun _ _ _ h => h) (Or.inl ⟨by rfl, ?_⟩) (by assumption) ?_
                rotate_left 1
                · intro w hSw; (try dsimp only at hSw); simp only [List.getElem_toArray, List.getElem_cons_succ, List.getElem_cons_zero]; go_simp; try (with_reducible rfl)
                (try simp only [List.getElem_toArray, List.getElem_cons_succ, List.getElem_cons_zero, Act.put, List.setIfInBounds_toArray, List.set_cons_succ, List.set_cons_zero])
                refine wpAnyH_take (i := 5) (v := ?_) rfl (by kernel_rfl) (by kernel_rfl) (by kernel_rfl) (fun _ _ _ h => h) (Or.inl ⟨by rfl, ?_⟩) (by assumption) ?_
                rotate_left 1
                · intro w hSw; (try dsimp only at hSw); simp only [List.getElem_toArray, List.getElem_cons_succ, List.getElem_cons_zero]; go_simp; try (with_reducible rfl)
                (try simp only [List.getElem_toArray, List.getElem_cons_succ, List.getElem_cons_zero, Act.put, List.setIfInBounds_toArray, List.set_cons_succ, List.set_cons_zero])
                refine wpAnyH_take (i := 6) (v := ?_) rfl (by kernel_rfl) (by kernel_rfl) (by kernel_rfl) (fun _ _ _ h => h) (Or.inl ⟨by rfl, ?_⟩) (by assumption) ?_
                rotate_left 1
                · intro w hSw; (try dsimp only at hSw); simp only [List.getElem_toArray, List.getElem_cons_succ, List.getElem_cons_zero]; go_simp; try (with_reducible rfl)
                (try simp only [List.getElem_toArray, List.getElem_cons_succ, List.getElem_cons_zero, Act.put, List.setIfInBounds_toArray, List.set_cons_succ, List.set_cons_zero])
                refine wpAnyH_take (i := 7) (v := ?_) rfl (by kernel_rfl) (by kernel_rfl) (by kernel_rfl) (fun _ _ _ h => h) (Or.inl ⟨by rfl, ?_⟩) (by assumption) ?_
                rotate_left 1
                · intro w hSw; (try dsimp only at hSw); simp only [List.getElem_toArray, List.getElem_cons_succ, List.getElem_cons_zero]; go_simp; try (with_reducible rfl)
                (try simp only [List.getElem_toArray, List.getElem_cons_succ, List.getElem_cons_zero, Act.put, List.setIfInBounds_toArray, List.set_cons_succ, List.set_cons_zero])
                refine wpAnyH_take (i := 8) (v := ?_) rfl (by kernel_rfl) (by kernel_rfl) (by kernel_rfl) (fun _ _ _ h => h) (Or.inl ⟨by rfl, ?_⟩) (by assumption) ?_
                rotate_left 1
                · intro w hSw; (try dsimp only at hSw); simp only [List.getElem_toArray, List.getElem_cons_succ, List.getElem_cons_zero]; go_simp; try (with_reducible rfl)
                (try simp only [List.getElem_toArray, List.getElem_cons_succ, List.getElem_cons_zero, Act.put, List.setIfInBounds_toArray, List.set_cons_succ, List.set_cons_zero])
                refine wpAnyH_take (i := 9) (v := ?_) rfl (by kernel_rfl) (by kernel_rfl) (by kernel_rfl) (fun _ _ _ h => h) (Or.inl ⟨by rfl, ?_⟩) (by assumption) ?_
                rotate_left 1
                · intro w hSw; (try dsimp only at hSw); simp only [List.getElem_toArray, List.getElem_cons_succ, List.getElem_cons_zero]; go_simp; try (with_reducible rfl)
                (try simp only [List.getElem_toArray, List.getElem_cons_succ, List.getElem_cons_zero, Act.put, List.setIfInBounds_toArray, List.set_cons_succ, List.set_cons_zero])
                refine wpAnyH_take (i := 10) (v := ?_) rfl (by kernel_rfl) (by kernel_rfl) (by kernel_rfl) (fun _ _ _ h => h) (Or.inl ⟨by rfl, ?_⟩) (by assumption) ?_
                rotate_left 1
                · intro w hSw; (try dsimp only at hSw); simp only [List.getElem_toArray, List.getElem_cons_succ, List.getElem_cons_zero]; go_simp; try (with_reducible rfl)
                (try simp only [List.getElem_toArray, List.getElem_cons_succ, List.getElem_cons_zero, Act.put, List.setIfInBounds_toArray, List.set_cons_succ, List.set_cons_zero])
                refine wpAnyH_take (i := 11) (v := .bool true) rfl (by kernel_rfl) (by kernel_rfl) (by kernel_rfl) (fun _ _ _ h => h) (Or.inl ⟨by rfl, ?_⟩) (by assumption) ?_
                · intro w hSw; (try dsimp only at hSw); simp only [List.getElem_toArray, List.getElem_cons_succ, List.getElem_cons_zero]; first | (go_simp; done) | (go_simp; exact hi1) | (go_simp; exact decide_eq_true hi1) | (go_simp; exact decide_eq_false hi1) | (go_simp; simp [hi1]; done) | (go_simp; omega)
                (try simp only [List.getElem_toArray, List.getElem_cons_succ, List.getElem_cons_zero, Act.put, List.setIfInBounds_toArray, List.set_cons_succ, List.set_cons_zero])
                refine wpAnyH_take (i := 12) (v := ?_) rfl (by kernel_rfl) (by kernel_rfl) (by kernel_rfl) (fun _ _ _ h => h) (Or.inl ⟨by rfl, ?_⟩) (by assumption) ?_
                rotate_left 1
                · intro w hSw; (try dsimp only at hSw); simp only [List.getElem_toArray, List.getElem_cons_succ, List.getElem_cons_zero]; go_simp; try (with_reducible rfl)
                (try simp only [List.getElem_toArray, List.getElem_cons_succ, List.getElem_cons_zero, Act.put, List.setIfInBounds_toArray, List.set_cons_succ, List.set_cons_zero])
                refine wpAnyH_take (i := 13) (v := ?_) rfl (by kernel_rfl) (by kernel_rfl) (by kernel_rfl) (fun _ _ _ h => h) (Or.inl ⟨by rfl, ?_⟩) (by assumption) ?_
                rotate_left 1
                · intro w hSw; (try dsimp only at hSw); simp only [List.getElem_toArray, List.getElem_cons_succ, List.getElem_cons_zero]; go_simp; try (with_reducible rfl)
                (try simp only [List.getElem_toArray, List.getElem_cons_succ, List.getElem_cons_zero, Act.put, List.setIfInBounds_toArray, List.set_cons_succ, List.set_cons_zero])
                refine wpAnyH_take (i := 14) (v := ?_) rfl (by kernel_rfl) (by kernel_rfl) (by kernel_rfl) (fun _ _ _ h => h) (Or.inl ⟨by rfl, ?_⟩) (by assumption) ?_
                rotate_left 1
                · intro w hSw; (try dsimp only at hSw); simp only [List.getElem_toArray, List.getElem_cons_succ, List.getElem_cons_zero]; go_simp; try (with_reducible rfl)
                (try simp only [List.getElem_toArray, List.getElem_cons_succ, List.getElem_cons_zero, Act.put, List.setIfInBounds_toArray, List.set_cons_succ, List.set_cons_zero])
                refine wpAnyH_take (i := 15) (v := ?_) rfl (by kernel_rfl) (by kernel_rfl) (by kernel_rfl) (fun _ _ _ h => h) (Or.inl ⟨by rfl, ?_⟩) (by assumption) ?_
                rotate_left 1
                · intro w hSw; (try dsimp only at hSw); simp only [List.getElem_toArray, List.getElem_cons_succ, List.getElem_cons_zero]; go_simp; try (with_reducible rfl)
                (try simp only [List.getElem_toArray, List.getElem_cons_succ, List.getElem_cons_zero, Act.put, List.setIfInBounds_toArray, List.set_cons_succ, List.set_cons_zero])
                refine wpAnyH_take (i := 16) (v := ?_) rfl (by kernel_rfl) (by kernel_rfl) (by kernel_rfl) (fun _ _ _ h => h) (Or.inl ⟨by rfl, ?_⟩) (by assumption) ?_
                rotate_left 1
                · intro w hSw; (try dsimp only at hSw); simp only [List.getElem_toArray, List.getElem_cons_succ, List.getElem_cons_zero]; go_simp; try (with_reducible rfl)
                (try simp only [List.getElem_toArray, List.getElem_cons_succ, List.getElem_cons_zero, Act.put, List.setIfInBounds_toArray, List.set_cons_succ, List.set_cons_zero])
                refine wpAnyH_take (i := 17) (v := ?_) rfl (by kernel_rfl) (by kernel_rfl) (by kernel_rfl) (fun _ _ _ h => h) (Or.inl ⟨by rfl, ?_⟩) (by assumption) ?_
                rotate_left 1
                · intro w hSw; (try dsimp only at hSw); simp only [List.getElem_toArray, List.getElem_cons_succ, List.getElem_cons_zero]; go_simp; try (with_reducible rfl)
                (try simp only [List.getElem_toArray, List.getElem_cons_succ, List.getElem_cons_zero, Act.put, List.setIfInBounds_toArray, List.set_cons_succ, List.set_cons_zero])
                refine wpAnyH_take (i := 18) (v := ?_) rfl (by kernel_rfl) (by kernel_rfl) (by kernel_rfl) (fun _ _ _ h => h) (Or.inl ⟨by rfl, ?_⟩) (by assumption) ?_
                rotate_left 1
                · intro w hSw; (try dsimp only at hSw); simp only [List.getElem_toArray, List.getElem_cons_succ, List.getElem_cons_zero]; go_simp; try (with_reducible rfl)
                (try simp only [List.getElem_toArray, List.getElem_cons_succ, List.getElem_cons_zero, Act.put, List.setIfInBounds_toArray, List.set_cons_succ, List.set_cons_zero])
                refine wpAnyH_take (i := 19) (v := ?_) rfl (by kernel_rfl) (by kernel_rfl) (by kernel_rfl) (fun _ _ _ h => h) (Or.inl ⟨by rfl, ?_⟩) (by assumption) ?_
                rotate_left 1
                · intro w hSw; (try dsimp only at hSw); simp only [List.getElem_toArray, List.getElem_cons_succ, List.getElem_cons_zero]; go_simp; try (with_reducible rfl)
                (try simp only [List.getElem_toArray, List.getElem_cons_succ, List.getElem_cons_zero, Act.put, List.setIfInBounds_toArray, List.set_cons_succ, List.set_cons_zero])
                refine wpAnyH_take (i := 20) (v := ?_) rfl (by kernel_rfl) (by kernel_rfl) (by kernel_rfl) (fun _ _ _ h => h) (Or.inl ⟨by rfl, ?_⟩) (by assumption) ?_
                rotate_left 1
                · intro w hSw; (try dsimp only at hSw); simp only [List.getElem_toArray, List.getElem_cons_succ, List.getElem_cons_zero]; go_simp; try (with_reducible rfl)
                (try simp only [List.getElem_toArray, List.getElem_cons_succ, List.getElem_cons_zero, Act.put, List.setIfInBounds_toArray, List.set_cons_succ, List.set_cons_zero])
                refine wpAnyH_take (i := 21) (v := .string ⟨y.toArray⟩) rfl (by kernel_rfl) (by kernel_rfl) (by kernel_rfl) (fun _ _ _ h => h) (Or.inl ⟨by rfl, ?_⟩) (by assumption) ?_
                · intro w hSw; (try dsimp only at hSw); simp only [List.getElem_toArray, List.getElem_cons_succ, List.getElem_cons_zero]; have hc := hSw.2.2.2.2.1; first | (simp [execOp, Act.eval, hc]; done) | (go_simp; done)
                (try simp only [List.getElem_toArray, List.getElem_cons_succ, List.getElem_cons_zero, Act.put, List.setIfInBounds_toArray, List.set_cons_succ, List.set_cons_zero])
                refine wpAnyH_take (i := 22) (v := ?_) rfl (by kernel_rfl) (by kernel_rfl) (by kernel_rfl) (fun _ _ _ h => h) (Or.inl ⟨by rfl, ?_⟩) (by assumption) ?_
                rotate_left 1
                · intro w hSw; (try dsimp only at hSw); simp only [List.getElem_toArray, List.getElem_cons_succ, List.getElem_cons_zero]; go_simp; try (with_reducible rfl)
                (try simp only [List.getElem_toArray, List.getElem_cons_succ, List.getElem_cons_zero, Act.put, List.setIfInBounds_toArray, List.set_cons_succ, List.set_cons_zero])
                refine wpAnyH_take (i := 23) (v := ?_) rfl (by kernel_rfl) (by kernel_rfl) (by kernel_rfl) (fun _ _ _ h => h) (Or.inl ⟨by rfl, ?_⟩) (by assumption) ?_
                rotate_left 1
                · intro w hSw; (try dsimp only at hSw); simp only [List.getElem_toArray, List.getElem_cons_succ, List.getElem_cons_zero]; go_simp; try (with_reducible rfl)
                (try simp only [List.getElem_toArray, List.getElem_cons_succ, List.getElem_cons_zero, Act.put, List.setIfInBounds_toArray, List.set_cons_succ, List.set_cons_zero])
                refine wpAnyH_take (i := 24) (v := .string ⟨y.toArray⟩) rfl (by kernel_rfl) (by kernel_rfl) (by kernel_rfl) (fun _ _ _ h => h) (Or.inl ⟨by rfl, ?_⟩) (by assumption) ?_
                · intro w hSw; (try dsimp only at hSw); simp only [List.getElem_toArray, List.getElem_cons_succ, List.getElem_cons_zero]; have hc := hSw.2.2.2.2.2; first | (simp [execOp, Act.eval, hc]; done) | (go_simp; done)
                (try simp only [List.getElem_toArray, List.getElem_cons_succ, List.getElem_cons_zero, Act.put, List.setIfInBounds_toArray, List.set_cons_succ, List.set_cons_zero])
                refine wpAnyH_take (i := 25) (v := .bool true) rfl (by kernel_rfl) (by kernel_rfl) (by kernel_rfl) (fun _ _ _ h => h) (Or.inl ⟨by rfl, ?_⟩) (by assumption) ?_
                · intro w hSw; (try dsimp only at hSw); simp only [List.getElem_toArray, List.getElem_cons_succ, List.getElem_cons_zero]; first | (go_simp; done) | (simp [execOp, Act.eval, hsx]; done) | (go_simp; simp [hsx]; done) | (go_simp; exact hsx)
                (try simp only [List.getElem_toArray, List.getElem_cons_succ, List.getElem_cons_zero, Act.put, List.setIfInBounds_toArray, List.set_cons_succ, List.set_cons_zero])
                refine wpAnyH_take (i := 26) (v := ?_) rfl (by kernel_rfl) (by kernel_rfl) (by kernel_rfl) (fun _ _ _ h => h) (Or.inl ⟨by rfl, ?_⟩) (by assumption) ?_
                rotate_left 1
                · intro w hSw; (try dsimp only at hSw); simp only [List.getElem_toArray, List.getElem_cons_succ, List.getElem_cons_zero]; go_simp; try (with_reducible rfl)
                (try simp only [List.getElem_toArray, List.getElem_cons_succ, List.getElem_cons_zero, Act.put, List.setIfInBounds_toArray, List.set_cons_succ, List.set_cons_zero])
                refine wpAnyH_done (by kernel_rfl) ?_ _
                go_wp2_with (go_at_call 9; refine (CA.out _ (below_dr hBc)).mono ?_; rintro e' v9 ⟨rfl, d9⟩)
                go_ret
                exact ⟨rfl, below_more (below_dr hBc) d9⟩
              · have hsx : ¬ y = x := hyx
                have hres := hres.resolve_left (fun h => hyx h.2.2)
                clear hy hTy hrd sc K11a hyx
                go_upto_region 11 with fail
                refine wp_region_held_drew (S := fun W => W.cell? ⟨w.heap.size, 0, none⟩ = some (.slice (some ⟨b0, off, none⟩) n cL) ∧ W.cell? ⟨w.heap.size, 1, none⟩ = some (.slice AT k cT) ∧ W.cell? ⟨w.heap.size, 3, none⟩ = some (.int .i64 (j : Int)) ∧ W.cell? ⟨b0, off + j, none⟩ = some (.slice A3 m3 c3) ∧ (convert 23 9 (.slice A3 m3 c3)).run Tryd.prog W = .ok (.string ⟨y.toArray⟩) W ∧ (convert 23 9 (.slice AT k cT)).run Tryd.prog W = .ok (.string ⟨x.toArray⟩) W) (by kernel_rfl) ?_ (fun hHeld => ?_)
                · exact K11.out _ (below_dr (Below.refl _ _))
                refine wpAnyH_take (i := 0) (v := ?_) rfl (by kernel_rfl) (by kernel_rfl) (by kernel_rfl) (fun _ _ _ h => h) (Or.inl ⟨by rfl, ?_⟩) (by assumption) ?_
                rotate_left 1
                · intro w hSw; (try dsimp only at hSw); simp only [List.getElem_toArray, List.getElem_cons_succ, List.getElem_cons_zero]; go_simp; try (with_reducible rfl)
                (try simp only [List.getElem_toArray, List.getElem_cons_succ, List.getElem_cons_zero, Act.put, List.setIfInBounds_toArray, List.set_cons_succ, List.set_cons_zero])
                refine wpAnyH_take (i := 1) (v := ?_) rfl (by kernel_rfl) (by kernel_rfl) (by kernel_rfl) (fun _ _ _ h => h) (Or.inl ⟨by rfl, ?_⟩) (by assumption) ?_
                rotate_left 1
                · intro w hSw; (try dsimp only at hSw); simp only [List.getElem_toArray, List.getElem_cons_succ, List.getElem_cons_zero]; go_simp; try (with_reducible rfl)
                (try simp only [List.getElem_toArray, List.getElem_cons_succ, List.getElem_cons_zero, Act.put, List.setIfInBounds_toArray, List.set_cons_succ, List.set_cons_zero])
                refine wpAnyH_take (i := 2) (v := ?_) rfl (by kernel_rfl) (by kernel_rfl) (by kernel_rfl) (fun _ _ _ h => h) (Or.inl ⟨by rfl, ?_⟩) (by assumption) ?_
                rotate_left 1
                · intro w hSw; (try dsimp only at hSw); simp only [List.getElem_toArray, List.getElem_cons_succ, List.getElem_cons_zero]; go_simp; try (with_reducible rfl)
                (try simp only [List.getElem_toArray, List.getElem_cons_succ, List.getElem_cons_zero, Act.put, List.setIfInBounds_toArray, List.set_cons_succ, List.set_cons_zero])
                refine wpAnyH_take (i := 3) (v := .bool true) rfl (by kernel_rfl) (by kernel_rfl) (by kernel_rfl) (fun _ _ _ h => h) (Or.inl ⟨by rfl, ?_⟩) (by assumption) ?_
                · intro w hSw; (try dsimp only at hSw); simp only [List.getElem_toArray, List.getElem_cons_succ, List.getElem_cons_zero]; first | (go_simp; done) | (go_simp; exact hi0) | (go_simp; exact decide_eq_true hi0) | (go_simp; exact decide_eq_false hi0) | (go_simp; simp [hi0]; done) | (go_simp; omega)
                (try simp only [List.getElem_toArray, List.getElem_cons_succ, List.getElem_cons_zero, Act.put, List.setIfInBounds_toArray, List.set_cons_succ, List.set_cons_zero])
                refine wpAnyH_take (i := 4) (v := ?_) rfl (by kernel_rfl) (by kernel_rfl) (by kernel_rfl) (fun _ _ _ h => h) (Or.inl ⟨by rfl, ?_⟩) (by assumption) ?_
                rotate_left 1
                · intro w hSw; (try dsimp only at hSw); simp only [List.getElem_toArray, List.getElem_cons_succ, List.getElem_cons_zero]; go_simp; try (with_reducible rfl)
                (try simp only [List.getElem_toArray, List.getElem_cons_succ, List.getElem_cons_zero, Act.put, List.setIfInBounds_toArray, List.set_cons_succ, List.set_cons_zero])
                refine wpAnyH_take (i := 5) (v := ?_) rfl (by kernel_rfl) (by kernel_rfl) (by kernel_rfl) (fun _ _ _ h => h) (Or.inl ⟨by rfl, ?_⟩) (by assumption) ?_
                rotate_left 1
                · intro w hSw; (try dsimp only at hSw); simp only [List.getElem_toArray, List.getElem_cons_succ, List.getElem_cons_zero]; go_simp; try (with_reducible rfl)
                (try simp only [List.getElem_toArray, List.getElem_cons_succ, List.getElem_cons_zero, Act.put, List.setIfInBounds_toArray, List.set_cons_succ, List.set_cons_zero])
                refine wpAnyH_take (i := 6) (v := ?_) rfl (by kernel_rfl) (by kernel_rfl) (by kernel_rfl) (fun _ _ _ h => h) (Or.inl ⟨by rfl, ?_⟩) (by assumption) ?_
                rotate_left 1
                · intro w hSw; (try dsimp only at hSw); simp only [List.getElem_toArray, List.getElem_cons_succ, List.getElem_cons_zero]; go_simp; try (with_reducible rfl)
                (try simp only [List.getElem_toArray, List.getElem_cons_succ, List.getElem_cons_zero, Act.put, List.setIfInBounds_toArray, List.set_cons_succ, List.set_cons_zero])
                refine wpAnyH_take (i := 7) (v := ?_) rfl (by kernel_rfl) (by kernel_rfl) (by kernel_rfl) (fun _ _ _ h => h) (Or.inl ⟨by rfl, ?_⟩) (by assumption) ?_
                rotate_left 1
                · intro w hSw; (try dsimp only at hSw); simp only [List.getElem_toArray, List.getElem_cons_succ, List.getElem_cons_zero]; go_simp; try (with_reducible rfl)
                (try simp only [List.getElem_toArray, List.getElem_cons_succ, List.getElem_cons_zero, Act.put, List.setIfInBounds_toArray, List.set_cons_succ, List.set_cons_zero])
                refine wpAnyH_take (i := 8) (v := ?_) rfl (by kernel_rfl) (by kernel_rfl) (by kernel_rfl) (fun _ _ _ h => h) (Or.inl ⟨by rfl, ?_⟩) (by assumption) ?_
                rotate_left 1
                · intro w hSw; (try dsimp only at hSw); simp only [List.getElem_toArray, List.getElem_cons_succ, List.getElem_cons_zero]; go_simp; try (with_reducible rfl)
                (try simp only [List.getElem_toArray, List.getElem_cons_succ, List.getElem_cons_zero, Act.put, List.setIfInBounds_toArray, List.set_cons_succ, List.set_cons_zero])
                refine wpAnyH_take (i := 9) (v := ?_) rfl (by kernel_rfl) (by kernel_rfl) (by kernel_rfl) (fun _ _ _ h => h) (Or.inl ⟨by rfl, ?_⟩) (by assumption) ?_
                rotate_left 1
                · intro w hSw; (try dsimp only at hSw); simp only [List.getElem_toArray, List.getElem_cons_succ, List.getElem_cons_zero]; go_simp; try (with_reducible rfl)
                (try simp only [List.getElem_toArray, List.getElem_cons_succ, List.getElem_cons_zero, Act.put, List.setIfInBounds_toArray, List.set_cons_succ, List.set_cons_zero])
                refine wpAnyH_take (i := 10) (v := ?_) rfl (by kernel_rfl) (by kernel_rfl) (by kernel_rfl) (fun _ _ _ h => h) (Or.inl ⟨by rfl, ?_⟩) (by assumption) ?_
                rotate_left 1
                · intro w hSw; (try dsimp only at hSw); simp only [List.getElem_toArray, List.getElem_cons_succ, List.getElem_cons_zero]; go_simp; try (with_reducible rfl)
                (try simp only [List.getElem_toArray, List.getElem_cons_succ, List.getElem_cons_zero, Act.put, List.setIfInBounds_toArray, List.set_cons_succ, List.set_cons_zero])
                refine wpAnyH_take (i := 11) (v := .bool true) rfl (by kernel_rfl) (by kernel_rfl) (by kernel_rfl) (fun _ _ _ h => h) (Or.inl ⟨by rfl, ?_⟩) (by assumption) ?_
                · intro w hSw; (try dsimp only at hSw); simp only [List.getElem_toArray, List.getElem_cons_succ, List.getElem_cons_zero]; first | (go_simp; done) | (go_simp; exact hi1) | (go_simp; exact decide_eq_true hi1) | (go_simp; exact decide_eq_false hi1) | (go_simp; simp [hi1]; done) | (go_simp; omega)
                (try simp only [List.getElem_toArray, List.getElem_cons_succ, List.getElem_cons_zero, Act.put, List.setIfInBounds_toArray, List.set_cons_succ, List.set_cons_zero])
                refine wpAnyH_take (i := 12) (v := ?_) rfl (by kernel_rfl) (by kernel_rfl) (by kernel_rfl) (fun _ _ _ h => h) (Or.inl ⟨by rfl, ?_⟩) (by assumption) ?_
                rotate_left 1
                · intro w hSw; (try dsimp only at hSw); simp only [List.getElem_toArray, List.getElem_cons_succ, List.getElem_cons_zero]; go_simp; try (with_reducible rfl)
                (try simp only [List.getElem_toArray, List.getElem_cons_succ, List.getElem_cons_zero, Act.put, List.setIfInBounds_toArray, List.set_cons_succ, List.set_cons_zero])
                refine wpAnyH_take (i := 13) (v := ?_) rfl (by kernel_rfl) (by kernel_rfl) (by kernel_rfl) (fun _ _ _ h => h) (Or.inl ⟨by rfl, ?_⟩) (by assumption) ?_
                rotate_left 1
                · intro w hSw; (try dsimp only at hSw); simp only [List.getElem_toArray, List.getElem_cons_succ, List.getElem_cons_zero]; go_simp; try (with_reducible rfl)
                (try simp only [List.getElem_toArray, List.getElem_cons_succ, List.getElem_cons_zero, Act.put, List.setIfInBounds_toArray, List.set_cons_succ, List.set_cons_zero])
                refine wpAnyH_take (i := 14) (v := ?_) rfl (by kernel_rfl) (by kernel_rfl) (by kernel_rfl) (fun _ _ _ h => h) (Or.inl ⟨by rfl, ?_⟩) (by assumption) ?_
                rotate_left 1
                · intro w hSw; (try dsimp only at hSw); simp only [List.getElem_toArray, List.getElem_cons_succ, List.getElem_cons_zero]; go_simp; try (with_reducible rfl)
                (try simp only [List.getElem_toArray, List.getElem_cons_succ, List.getElem_cons_zero, Act.put, List.setIfInBounds_toArray, List.set_cons_succ, List.set_cons_zero])
                refine wpAnyH_take (i := 15) (v := ?_) rfl (by kernel_rfl) (by kernel_rfl) (by kernel_rfl) (fun _ _ _ h => h) (Or.inl ⟨by rfl, ?_⟩) (by assumption) ?_
                rotate_left 1
                · intro w hSw; (try dsimp only at hSw); simp only [List.getElem_toArray, List.getElem_cons_succ, List.getElem_cons_zero]; go_simp; try (with_reducible rfl)
                (try simp only [List.getElem_toArray, List.getElem_cons_succ, List.getElem_cons_zero, Act.put, List.setIfInBounds_toArray, List.set_cons_succ, List.set_cons_zero])
                refine wpAnyH_take (i := 16) (v := ?_) rfl (by kernel_rfl) (by kernel_rfl) (by kernel_rfl) (fun _ _ _ h => h) (Or.inl ⟨by rfl, ?_⟩) (by assumption) ?_
                rotate_left 1
                · intro w hSw; (try dsimp only at hSw); simp only [List.getElem_toArray, List.getElem_cons_succ, List.getElem_cons_zero]; go_simp; try (with_reducible rfl)
                (try simp only [List.getElem_toArray, List.getElem_cons_succ, List.getElem_cons_zero, Act.put, List.setIfInBounds_toArray, List.set_cons_succ, List.set_cons_zero])
                refine wpAnyH_take (i := 17) (v := ?_) rfl (by kernel_rfl) (by kernel_rfl) (by kernel_rfl) (fun _ _ _ h => h) (Or.inl ⟨by rfl, ?_⟩) (by assumption) ?_
                rotate_left 1
                · intro w hSw; (try dsimp only at hSw); simp only [List.getElem_toArray, List.getElem_cons_succ, List.getElem_cons_zero]; go_simp; try (with_reducible rfl)
                (try simp only [List.getElem_toArray, List.getElem_cons_succ, List.getElem_cons_zero, Act.put, List.setIfInBounds_toArray, List.set_cons_succ, List.set_cons_zero])
                refine wpAnyH_take (i := 18) (v := ?_) rfl (by kernel_rfl) (by kernel_rfl) (by kernel_rfl) (fun _ _ _ h => h) (Or.inl ⟨by rfl, ?_⟩) (by assumption) ?_
                rotate_left 1
                · intro w hSw; (try dsimp only at hSw); simp only [List.getElem_toArray, List.getElem_cons_succ, List.getElem_cons_zero]; go_simp; try (with_reducible rfl)
                (try simp only [List.getElem_toArray, List.getElem_cons_succ, List.getElem_cons_zero, Act.put, List.setIfInBounds_toArray, List.set_cons_succ, List.set_cons_zero])
                refine wpAnyH_take (i := 19) (v := ?_) rfl (by kernel_rfl) (by kernel_rfl) (by kernel_rfl) (fun _ _ _ h => h) (Or.inl ⟨by rfl, ?_⟩) (by assumption) ?_
                rotate_left 1
                · intro w hSw; (try dsimp only at hSw); simp only [List.getElem_toArray, List.getElem_cons_succ, List.getElem_cons_zero]; go_simp; try (with_reducible rfl)
                (try simp only [List.getElem_toArray, List.getElem_cons_succ, List.getElem_cons_zero, Act.put, List.setIfInBounds_toArray, List.set_cons_succ, List.set_cons_zero])
                refine wpAnyH_take (i := 20) (v := ?_) rfl (by kernel_rfl) (by kernel_rfl) (by kernel_rfl) (fun _ _ _ h => h) (Or.inl ⟨by rfl, ?_⟩) (by assumption) ?_
                rotate_left 1
                · intro w hSw; (try dsimp only at hSw); simp only [List.getElem_toArray, List.getElem_cons_succ, List.getElem_cons_zero]; go_simp; try (with_reducible rfl)
                (try simp only [List.getElem_toArray, List.getElem_cons_succ, List.getElem_cons_zero, Act.put, List.setIfInBounds_toArray, List.set_cons_succ, List.set_cons_zero])
                refine wpAnyH_take (i := 21) (v := .string ⟨y.toArray⟩) rfl (by kernel_rfl) (by kernel_rfl) (by kernel_rfl) (fun _ _ _ h => h) (Or.inl ⟨by rfl, ?_⟩) (by assumption) ?_
                · intro w hSw; (try dsimp only at hSw); simp only [List.getElem_toArray, List.getElem_cons_succ, List.getElem_cons_zero]; have hc := hSw.2.2.2.2.1; first | (simp [execOp, Act.eval, hc]; done) | (go_simp; done)
                (try simp only [List.getElem_toArray, List.getElem_cons_succ, List.getElem_cons_zero, Act.put, List.setIfInBounds_toArray, List.set_cons_succ, List.set_cons_zero])
                refine wpAnyH_take (i := 22) (v := ?_) rfl (by kernel_rfl) (by kernel_rfl) (by kernel_rfl) (fun _ _ _ h => h) (Or.inl ⟨by rfl, ?_⟩) (by assumption) ?_
                rotate_left 1
                · intro w hSw; (try dsimp only at hSw); simp only [List.getElem_toArray, List.getElem_cons_succ, List.getElem_cons_zero]; go_simp; try (with_reducible rfl)
                (try simp only [List.getElem_toArray, List.getElem_cons_succ, List.getElem_cons_zero, Act.put, List.setIfInBounds_toArray, List.set_cons_succ, List.set_cons_zero])
                refine wpAnyH_take (i := 23) (v := ?_) rfl (by kernel_rfl) (by kernel_rfl) (by kernel_rfl) (fun _ _ _ h => h) (Or.inl ⟨by rfl, ?_⟩) (by assumption) ?_
                rotate_left 1
                · intro w hSw; (try dsimp only at hSw); simp only [List.getElem_toArray, List.getElem_cons_succ, List.getElem_cons_zero]; go_simp; try (with_reducible rfl)
                (try simp only [List.getElem_toArray, List.getElem_cons_succ, List.getElem_cons_zero, Act.put, List.setIfInBounds_toArray, List.set_cons_succ, List.set_cons_zero])
                refine wpAnyH_take (i := 24) (v := .string ⟨x.toArray⟩) rfl (by kernel_rfl) (by kernel_rfl) (by kernel_rfl) (fun _ _ _ h => h) (Or.inl ⟨by rfl, ?_⟩) (by assumption) ?_
                · intro w hSw; (try dsimp only at hSw); simp only [List.getElem_toArray, List.getElem_cons_succ, List.getElem_cons_zero]; have hc := hSw.2.2.2.2.2; first | (simp [execOp, Act.eval, hc]; done) | (go_simp; done)
                (try simp only [List.getElem_toArray, List.getElem_cons_succ, List.getElem_cons_zero, Act.put, List.setIfInBounds_toArray, List.set_cons_succ, List.set_cons_zero])
                refine wpAnyH_take (i := 25) (v := .bool false) rfl (by kernel_rfl) (by kernel_rfl) (by kernel_rfl) (fun _ _ _ h => h) (Or.inl ⟨by rfl, ?_⟩) (by assumption) ?_
                · intro w hSw; (try dsimp only at hSw); simp only [List.getElem_toArray, List.getElem_cons_succ, List.getElem_cons_zero]; first | (go_simp; done) | (simp [execOp, Act.eval, hsx]; done) | (go_simp; simp [hsx]; done) | (go_simp; exact hsx)
                (try simp only [List.getElem_toArray, List.getElem_cons_succ, List.getElem_cons_zero, Act.put, List.setIfInBounds_toArray, List.set_cons_succ, List.set_cons_zero])
                refine wpAnyH_take (i := 26) (v := ?_) rfl (by kernel_rfl) (by kernel_rfl) (by kernel_rfl) (fun _ _ _ h => h) (Or.inl ⟨by rfl, ?_⟩) (by assumption) ?_
                rotate_left 1
                · intro w hSw; (try dsimp only at hSw); simp only [List.getElem_toArray, List.getElem_cons_succ, List.getElem_cons_zero]; go_simp; try (with_reducible rfl)
                (try simp only [List.getElem_toArray, List.getElem_cons_succ, List.getElem_cons_zero, Act.put, List.setIfInBounds_toArray, List.set_cons_succ, List.set_cons_zero])
                refine wpAnyH_done (by kernel_rfl) ?_ _
                have hok := hres.1
                have KD := below_dr (Below.refl wc.heap.size wc)
                have s0 := (K9c.out _ KD).1
                have s1 := (K9c.out _ KD).2.1
                have KR := (K9c.out _ KD).2.2
                have hBd := below_dr hBc
                go_upto_region 14 with (first
                  | ((with_reducible refine at_load 26 (.tmp 82) ?_); refine wpList_load_mid rfl 26 (.tmp 82) rfl (w.heap.size) (0 + 2) (by first | rfl | simp [Act.eval]) [.int .i64 c, .int .i64 (j : Int), .slice AP m cP] _ KR Tryd.underlying26 rfl (by kernel_rfl) ?_)
                  | (go_at_call 17; refine (GE.out _ hBd).mono ?_; rintro e' y3 ⟨A1, n1, c1, A2, n2, c2, rfl, ha, hb, e3⟩))
                have hB3 := below_more hBd e3
                clear s0 s1 KR KD e3 hBd
                obtain ⟨_, hne, hds, hla, hlb⟩ := hres
                subst hok
                have hab : (a == b) = false := by simpa using hne
                have hcv1 := conv8 y3 A1 n1 c1 a ha.1
                have hcv2 := conv8 y3 A2 n2 c2 b hb.1
                obtain ⟨V, hV⟩ : ∃ V, V = (ds a).map B8 := ⟨_, rfl⟩
                have C1 : Hid (Calls Tryd.prog 19 #[.slice (some ⟨y3.heap.size, 0, none⟩) 1 1] (y3.alloc (.cells #[.slice A1 n1 c1] 23)) (Ret (y3.alloc (.cells #[.slice A1 n1 c1] 23)) (.agg V.toArray))) := Lib.hid (by rw [hV]; exact CT.out y3 A1 n1 c1 a hB3 ha.1 ha.2.1 ha.2.2 hla)
                have C2 : Hid (∀ W, Below y3.heap.size y3 W → Calls Tryd.prog 19 #[.slice (some ⟨W.heap.size, 0, none⟩) 1 1] (W.alloc (.cells #[.slice A2 n2 c2] 23)) (Ret (W.alloc (.cells #[.slice A2 n2 c2] 23)) (.agg V.toArray))) := Lib.hid fun W h => by rw [hV, hds]; exact CT.out W A2 n2 c2 b (below_more hB3 h) (hb.1.below h) hb.2.1 hb.2.2 hlb
                have heq : ∀ W, (Op.equalIn 10000 47 (.agg V.toArray) (.agg V.toArray)).run Tryd.prog W = .ok true W := fun W => by rw [hV]; exact eqG32 _ _ (ds_len _) (ds_len _) true (by simp) W
                clear hV hds CT
                go_wp2_with (first
                  | (go_at_call 19; first | ((with_reducible refine C1.out.mono ?_); rintro e' y4 ⟨rfl, e4⟩; have hy4 : Below y3.heap.size y3 y4 := below_more (below_al (Below.refl _ _) _) e4) | ((with_reducible refine (C2.out y4 hy4).mono ?_); rintro e' y5 ⟨rfl, e5⟩; have hB5 := below_more hB3 (below_more (below_al hy4 _) e5)))
                  | (go_at_call 9; refine (CA.out _ hB5).mono ?_; rintro e' v9 ⟨rfl, d9⟩))
                go_ret
                exact ⟨by first | rfl | simp [hab], below_more hB5 d9⟩
            · have hres := hres.resolve_left (fun h => hi1 h.2.1)
              have K11 := K11a
              go_upto_region 11 with fail
              refine wp_region_held_drew (S := fun W => W.cell? ⟨w.heap.size, 0, none⟩ = some (.slice AL n cL) ∧ W.cell? ⟨w.heap.size, 1, none⟩ = some (.slice AT k cT) ∧ W.cell? ⟨w.heap.size, 3, none⟩ = some (.int .i64 i)) (by kernel_rfl) ?_ (fun hHeld => ?_)
              · exact K11.out _ (below_dr (Below.refl _ _))
              refine wpAnyH_take (i := 0) (v := ?_) rfl (by kernel_rfl) (by kernel_rfl) (by kernel_rfl) (fun _ _ _ h => h) (Or.inl ⟨by rfl, ?_⟩) (by assumption) ?_
              rotate_left 1
              · intro w hSw; (try dsimp only at hSw); simp only [List.getElem_toArray, List.getElem_cons_succ, List.getElem_cons_zero]; go_simp; try (with_reducible rfl)
              (try simp only [List.getElem_toArray, List.getElem_cons_succ, List.getElem_cons_zero, Act.put, List.setIfInBounds_toArray, List.set_cons_succ, List.set_cons_zero])
              refine wpAnyH_take (i := 1) (v := ?_) rfl (by kernel_rfl) (by kernel_rfl) (by kernel_rfl) (fun _ _ _ h => h) (Or.inl ⟨by rfl, ?_⟩) (by assumption) ?_
              rotate_left 1
              · intro w hSw; (try dsimp only at hSw); simp only [List.getElem_toArray, List.getElem_cons_succ, List.getElem_cons_zero]; go_simp; try (with_reducible rfl)
              (try simp only [List.getElem_toArray, List.getElem_cons_succ, List.getElem_cons_zero, Act.put, List.setIfInBounds_toArray, List.set_cons_succ, List.set_cons_zero])
              refine wpAnyH_take (i := 2) (v := ?_) rfl (by kernel_rfl) (by kernel_rfl) (by kernel_rfl) (fun _ _ _ h => h) (Or.inl ⟨by rfl, ?_⟩) (by assumption) ?_
              rotate_left 1
              · intro w hSw; (try dsimp only at hSw); simp only [List.getElem_toArray, List.getElem_cons_succ, List.getElem_cons_zero]; go_simp; try (with_reducible rfl)
              (try simp only [List.getElem_toArray, List.getElem_cons_succ, List.getElem_cons_zero, Act.put, List.setIfInBounds_toArray, List.set_cons_succ, List.set_cons_zero])
              refine wpAnyH_take (i := 3) (v := .bool true) rfl (by kernel_rfl) (by kernel_rfl) (by kernel_rfl) (fun _ _ _ h => h) (Or.inl ⟨by rfl, ?_⟩) (by assumption) ?_
              · intro w hSw; (try dsimp only at hSw); simp only [List.getElem_toArray, List.getElem_cons_succ, List.getElem_cons_zero]; first | (go_simp; done) | (go_simp; exact hi0) | (go_simp; exact decide_eq_true hi0) | (go_simp; exact decide_eq_false hi0) | (go_simp; simp [hi0]; done) | (go_simp; omega)
              (try simp only [List.getElem_toArray, List.getElem_cons_succ, List.getElem_cons_zero, Act.put, List.setIfInBounds_toArray, List.set_cons_succ, List.set_cons_zero])
              refine wpAnyH_take (i := 4) (v := ?_) rfl (by kernel_rfl) (by kernel_rfl) (by kernel_rfl) (fun _ _ _ h => h) (Or.inl ⟨by rfl, ?_⟩) (by assumption) ?_
              rotate_left 1
              · intro w hSw; (try dsimp only at hSw); simp only [List.getElem_toArray, List.getElem_cons_succ, List.getElem_cons_zero]; go_simp; try (with_reducible rfl)
              (try simp only [List.getElem_toArray, List.getElem_cons_succ, List.getElem_cons_zero, Act.put, List.setIfInBounds_toArray, List.set_cons_succ, List.set_cons_zero])
              refine wpAnyH_take (i := 5) (v := ?_) rfl (by kernel_rfl) (by kernel_rfl) (by kernel_rfl) (fun _ _ _ h => h) (Or.inl ⟨by rfl, ?_⟩) (by assumption) ?_
              rotate_left 1
              · intro w hSw; (try dsimp only at hSw); simp only [List.getElem_toArray, List.getElem_cons_succ, List.getElem_cons_zero]; go_simp; try (with_reducible rfl)
              (try simp only [List.getElem_toArray, List.getElem_cons_succ, List.getElem_cons_zero, Act.put, List.setIfInBounds_toArray, List.set_cons_succ, List.set_cons_zero])
              refine wpAnyH_take (i := 6) (v := ?_) rfl (by kernel_rfl) (by kernel_rfl) (by kernel_rfl) (fun _ _ _ h => h) (Or.inl ⟨by rfl, ?_⟩) (by assumption) ?_
              rotate_left 1
              · intro w hSw; (try dsimp only at hSw); simp only [List.getElem_toArray, List.getElem_cons_succ, List.getElem_cons_zero]; go_simp; try (with_reducible rfl)
              (try simp only [List.getElem_toArray, List.getElem_cons_succ, List.getElem_cons_zero, Act.put, List.setIfInBounds_toArray, List.set_cons_succ, List.set_cons_zero])
              refine wpAnyH_take (i := 7) (v := ?_) rfl (by kernel_rfl) (by kernel_rfl) (by kernel_rfl) (fun _ _ _ h => h) (Or.inl ⟨by rfl, ?_⟩) (by assumption) ?_
              rotate_left 1
              · intro w hSw; (try dsimp only at hSw); simp only [List.getElem_toArray, List.getElem_cons_succ, List.getElem_cons_zero]; go_simp; try (with_reducible rfl)
              (try simp only [List.getElem_toArray, List.getElem_cons_succ, List.getElem_cons_zero, Act.put, List.setIfInBounds_toArray, List.set_cons_succ, List.set_cons_zero])
              refine wpAnyH_take (i := 8) (v := ?_) rfl (by kernel_rfl) (by kernel_rfl) (by kernel_rfl) (fun _ _ _ h => h) (Or.inl ⟨by rfl, ?_⟩) (by assumption) ?_
              rotate_left 1
              · intro w hSw; (try dsimp only at hSw); simp only [List.getElem_toArray, List.getElem_cons_succ, List.getElem_cons_zero]; go_simp; try (with_reducible rfl)
              (try simp only [List.getElem_toArray, List.getElem_cons_succ, List.getElem_cons_zero, Act.put, List.setIfInBounds_toArray, List.set_cons_succ, List.set_cons_zero])
              refine wpAnyH_take (i := 9) (v := ?_) rfl (by kernel_rfl) (by kernel_rfl) (by kernel_rfl) (fun _ _ _ h => h) (Or.inl ⟨by rfl, ?_⟩) (by assumption) ?_
              rotate_left 1
              · intro w hSw; (try dsimp only at hSw); simp only [List.getElem_toArray, List.getElem_cons_succ, List.getElem_cons_zero]; go_simp; try (with_reducible rfl)
              (try simp only [List.getElem_toArray, List.getElem_cons_succ, List.getElem_cons_zero, Act.put, List.setIfInBounds_toArray, List.set_cons_succ, List.set_cons_zero])
              refine wpAnyH_take (i := 10) (v := ?_) rfl (by kernel_rfl) (by kernel_rfl) (by kernel_rfl) (fun _ _ _ h => h) (Or.inl ⟨by rfl, ?_⟩) (by assumption) ?_
              rotate_left 1
              · intro w hSw; (try dsimp only at hSw); simp only [List.getElem_toArray, List.getElem_cons_succ, List.getElem_cons_zero]; go_simp; try (with_reducible rfl)
              (try simp only [List.getElem_toArray, List.getElem_cons_succ, List.getElem_cons_zero, Act.put, List.setIfInBounds_toArray, List.set_cons_succ, List.set_cons_zero])
              refine wpAnyH_take (i := 11) (v := .bool false) rfl (by kernel_rfl) (by kernel_rfl) (by kernel_rfl) (fun _ _ _ h => h) (Or.inl ⟨by rfl, ?_⟩) (by assumption) ?_
              · intro w hSw; (try dsimp only at hSw); simp only [List.getElem_toArray, List.getElem_cons_succ, List.getElem_cons_zero]; first | (go_simp; done) | (go_simp; exact hi1) | (go_simp; exact decide_eq_true hi1) | (go_simp; exact decide_eq_false hi1) | (go_simp; simp [hi1]; done) | (go_simp; omega)
              (try simp only [List.getElem_toArray, List.getElem_cons_succ, List.getElem_cons_zero, Act.put, List.setIfInBounds_toArray, List.set_cons_succ, List.set_cons_zero])
              refine wpAnyH_take (i := 12) (v := ?_) rfl (by kernel_rfl) (by kernel_rfl) (by kernel_rfl) (fun _ _ _ h => h) (Or.inl ⟨by rfl, ?_⟩) (by assumption) ?_
              rotate_left 1
              · intro w hSw; (try dsimp only at hSw); simp only [List.getElem_toArray, List.getElem_cons_succ, List.getElem_cons_zero]; go_simp; try (with_reducible rfl)
              (try simp only [List.getElem_toArray, List.getElem_cons_succ, List.getElem_cons_zero, Act.put, List.setIfInBounds_toArray, List.set_cons_succ, List.set_cons_zero])
              refine wpAnyH_take (i := 13) (v := ?_) rfl (by kernel_rfl) (by kernel_rfl) (by kernel_rfl) (fun _ _ _ h => h) (Or.inl ⟨by rfl, ?_⟩) (by assumption) ?_
              rotate_left 1
              · intro w hSw; (try dsimp only at hSw); simp only [List.getElem_toArray, List.getElem_cons_succ, List.getElem_cons_zero]; go_simp; try (with_reducible rfl)
              (try simp only [List.getElem_toArray, List.getElem_cons_succ, List.getElem_cons_zero, Act.put, List.setIfInBounds_toArray, List.set_cons_succ, List.set_cons_zero])
              refine wpAnyH_take (i := 14) (v := undef) rfl (by kernel_rfl) (by kernel_rfl) (by kernel_rfl) (fun _ _ _ h => h) (Or.inr ⟨by rfl, rfl⟩) (by assumption) ?_
              (try simp only [List.getElem_toArray, List.getElem_cons_succ, List.getElem_cons_zero, Act.put, List.setIfInBounds_toArray, List.set_cons_succ, List.set_cons_zero])
              refine wpAnyH_take (i := 15) (v := undef) rfl (by kernel_rfl) (by kernel_rfl) (by kernel_rfl) (fun _ _ _ h => h) (Or.inr ⟨by rfl, rfl⟩) (by assumption) ?_
              (try simp only [List.getElem_toArray, List.getElem_cons_succ, List.getElem_cons_zero, Act.put, List.setIfInBounds_toArray, List.set_cons_succ, List.set_cons_zero])
              refine wpAnyH_take (i := 16) (v := undef) rfl (by kernel_rfl) (by kernel_rfl) (by kernel_rfl) (fun _ _ _ h => h) (Or.inr ⟨by rfl, rfl⟩) (by assumption) ?_
              (try simp only [List.getElem_toArray, List.getElem_cons_succ, List.getElem_cons_zero, Act.put, List.setIfInBounds_toArray, List.set_cons_succ, List.set_cons_zero])
              refine wpAnyH_take (i := 17) (v := undef) rfl (by kernel_rfl) (by kernel_rfl) (by kernel_rfl) (fun _ _ _ h => h) (Or.inr ⟨by rfl, rfl⟩) (by assumption) ?_
              (try simp only [List.getElem_toArray, List.getElem_cons_succ, List.getElem_cons_zero, Act.put, List.setIfInBounds_toArray, List.set_cons_succ, List.set_cons_zero])
              refine wpAnyH_take (i := 18) (v := undef) rfl (by kernel_rfl) (by kernel_rfl) (by kernel_rfl) (fun _ _ _ h => h) (Or.inr ⟨by rfl, rfl⟩) (by assumption) ?_
              (try simp only [List.getElem_toArray, List.getElem_cons_succ, List.getElem_cons_zero, Act.put, List.setIfInBounds_toArray, List.set_cons_succ, List.set_cons_zero])
              refine wpAnyH_take (i := 19) (v := undef) rfl (by kernel_rfl) (by kernel_rfl) (by kernel_rfl) (fun _ _ _ h => h) (Or.inr ⟨by rfl, rfl⟩) (by assumption) ?_
              (try simp only [List.getElem_toArray, List.getElem_cons_succ, List.getElem_cons_zero, Act.put, List.setIfInBounds_toArray, List.set_cons_succ, List.set_cons_zero])
              refine wpAnyH_take (i := 20) (v := undef) rfl (by kernel_rfl) (by kernel_rfl) (by kernel_rfl) (fun _ _ _ h => h) (Or.inr ⟨by rfl, rfl⟩) (by assumption) ?_
              (try simp only [List.getElem_toArray, List.getElem_cons_succ, List.getElem_cons_zero, Act.put, List.setIfInBounds_toArray, List.set_cons_succ, List.set_cons_zero])
              refine wpAnyH_take (i := 21) (v := undef) rfl (by kernel_rfl) (by kernel_rfl) (by kernel_rfl) (fun _ _ _ h => h) (Or.inr ⟨by rfl, rfl⟩) (by assumption) ?_
              (try simp only [List.getElem_toArray, List.getElem_cons_succ, List.getElem_cons_zero, Act.put, List.setIfInBounds_toArray, List.set_cons_succ, List.set_cons_zero])
              refine wpAnyH_take (i := 22) (v := undef) rfl (by kernel_rfl) (by kernel_rfl) (by kernel_rfl) (fun _ _ _ h => h) (Or.inr ⟨by rfl, rfl⟩) (by assumption) ?_
              (try simp only [List.getElem_toArray, List.getElem_cons_succ, List.getElem_cons_zero, Act.put, List.setIfInBounds_toArray, List.set_cons_succ, List.set_cons_zero])
              refine wpAnyH_take (i := 23) (v := undef) rfl (by kernel_rfl) (by kernel_rfl) (by kernel_rfl) (fun _ _ _ h => h) (Or.inr ⟨by rfl, rfl⟩) (by assumption) ?_
              (try simp only [List.getElem_toArray, List.getElem_cons_succ, List.getElem_cons_zero, Act.put, List.setIfInBounds_toArray, List.set_cons_succ, List.set_cons_zero])
              refine wpAnyH_take (i := 24) (v := undef) rfl (by kernel_rfl) (by kernel_rfl) (by kernel_rfl) (fun _ _ _ h => h) (Or.inr ⟨by rfl, rfl⟩) (by assumption) ?_
              (try simp only [List.getElem_toArray, List.getElem_cons_succ, List.getElem_cons_zero, Act.put, List.setIfInBounds_toArray, List.set_cons_succ, List.set_cons_zero])
              refine wpAnyH_take (i := 25) (v := undef) rfl (by kernel_rfl) (by kernel_rfl) (by kernel_rfl) (fun _ _ _ h => h) (Or.inr ⟨by rfl, rfl⟩) (by assumption) ?_
              (try simp only [List.getElem_toArray, List.getElem_cons_succ, List.getElem_cons_zero, Act.put, List.setIfInBounds_toArray, List.set_cons_succ, List.set_cons_zero])
              refine wpAnyH_take (i := 26) (v := ?_) rfl (by kernel_rfl) (by kernel_rfl) (by kernel_rfl) (fun _ _ _ h => h) (Or.inl ⟨by rfl, ?_⟩) (by assumption) ?_
              rotate_left 1
              · intro w hSw; (try dsimp only at hSw); simp only [List.getElem_toArray, List.getElem_cons_succ, List.getElem_cons_zero]; go_simp; try (with_reducible rfl)
              (try simp only [List.getElem_toArray, List.getElem_cons_succ, List.getElem_cons_zero, Act.put, List.setIfInBounds_toArray, List.set_cons_succ, List.set_cons_zero])
              refine wpAnyH_done (by kernel_rfl) ?_ _
              have hok := hres.1
              have KD := below_dr (Below.refl wc.heap.size wc)
              have s0 := (K9c.out _ KD).1
              have s1 := (K9c.out _ KD).2.1
              have KR := (K9c.out _ KD).2.2
              have hBd := below_dr hBc
              go_upto_region 14 with (first
                | ((with_reducible refine at_load 26 (.tmp 82) ?_); refine wpList_load_mid rfl 26 (.tmp 82) rfl (w.heap.size) (0 + 2) (by first | rfl | simp [Act.eval]) [.int .i64 c, .int .i64 i, .slice AP m cP] _ KR Tryd.underlying26 rfl (by kernel_rfl) ?_)
                | (go_at_call 17; refine (GE.out _ hBd).mono ?_; rintro e' y3 ⟨A1, n1, c1, A2, n2, c2, rfl, ha, hb, e3⟩))
              have hB3 := below_more hBd e3
              clear s0 s1 KR KD e3 hBd
              obtain ⟨_, hne, hds, hla, hlb⟩ := hres
              subst hok
              have hab : (a == b) = false := by simpa using hne
              have hcv1 := conv8 y3 A1 n1 c1 a ha.1
              have hcv2 := conv8 y3 A2 n2 c2 b hb.1
              obtain ⟨V, hV⟩ : ∃ V, V = (ds a).map B8 := ⟨_, rfl⟩
              have C1 : Hid (Calls Tryd.prog 19 #[.slice (some ⟨y3.heap.size, 0, none⟩) 1 1] (y3.alloc (.cells #[.slice A1 n1 c1] 23)) (Ret (y3.alloc (.cells #[.slice A1 n1 c1] 23)) (.agg V.toArray))) := Lib.hid (by rw [hV]; exact CT.out y3 A1 n1 c1 a hB3 ha.1 ha.2.1 ha.2.2 hla)
              have C2 : Hid (∀ W, Below y3.heap.size y3 W → Calls Tryd.prog 19 #[.slice (some ⟨W.heap.size, 0, none⟩) 1 1] (W.alloc (.cells #[.slice A2 n2 c2] 23)) (Ret (W.alloc (.cells #[.slice A2 n2 c2] 23)) (.agg V.toArray))) := Lib.hid fun W h => by rw [hV, hds]; exact CT.out W A2 n2 c2 b (below_more hB3 h) (hb.1.below h) hb.2.1 hb.2.2 hlb
              have heq : ∀ W, (Op.equalIn 10000 47 (.agg V.toArray) (.agg V.toArray)).run Tryd.prog W = .ok true W := fun W => by rw [hV]; exact eqG32 _ _ (ds_len _) (ds_len _) true (by simp) W
              clear hV hds CT
              go_wp2_with (first
                | (go_at_call 19; first | ((with_reducible refine C1.out.mono ?_); rintro e' y4 ⟨rfl, e4⟩; have hy4 : Below y3.heap.size y3 y4 := below_more (below_al (Below.refl _ _) _) e4) | ((with_reducible refine (C2.out y4 hy4).mono ?_); rintro e' y5 ⟨rfl, e5⟩; have hB5 := below_more hB3 (below_more (below_al hy4 _) e5)))
                | (go_at_call 9; refine (CA.out _ hB5).mono ?_; rintro e' v9 ⟨rfl, d9⟩))
              go_ret
              exact ⟨by first | rfl | simp [hab], below_more hB5 d9⟩
          · have hres := hres.resolve_left (fun h => hi0 h.1)
            have K11 := K11a
            go_upto_region 11 with fail
            refine wp_region_held_drew (S := fun W => W.cell? ⟨w.heap.size, 0, none⟩ = some (.slice AL n cL) ∧ W.cell? ⟨w.heap.size, 1, none⟩ = some (.slice AT k cT) ∧ W.cell? ⟨w.heap.size, 3, none⟩ = some (.int .i64 i)) (by kernel_rfl) ?_ (fun hHeld => ?_)
            · exact K11.out _ (below_dr (Below.refl _ _))
            refine wpAnyH_take (i := 0) (v := ?_) rfl (by kernel_rfl) (by kernel_rfl) (by kernel_rfl) (fun _ _ _ h => h) (Or.inl ⟨by rfl, ?_⟩) (by assumption) ?_
            rotate_left 1
            · intro w hSw; (try dsimp only at hSw); simp only [List.getElem_toArray, List.getElem_cons_succ, List.getElem_cons_zero]; go_simp; try (with_reducible rfl)
            (try simp only [List.getElem_toArray, List.getElem_cons_succ, List.getElem_cons_zero, Act.put, List.setIfInBounds_toArray, List.set_cons_succ, List.set_cons_zero])
            refine wpAnyH_take (i := 1) (v := ?_) rfl (by kernel_rfl) (by kernel_rfl) (by kernel_rfl) (fun _ _ _ h => h) (Or.inl ⟨by rfl, ?_⟩) (by assumption) ?_
            rotate_left 1
            · intro w hSw; (try dsimp only at hSw); simp only [List.getElem_toArray, List.getElem_cons_succ, List.getElem_cons_zero]; go_simp; try (with_reducible rfl)
            (try simp only [List.getElem_toArray, List.getElem_cons_succ, List.getElem_cons_zero, Act.put, List.setIfInBounds_toArray, List.set_cons_succ, List.set_cons_zero])
            refine wpAnyH_take (i := 2) (v := ?_) rfl (by kernel_rfl) (by kernel_rfl) (by kernel_rfl) (fun _ _ _ h => h) (Or.inl ⟨by rfl, ?_⟩) (by assumption) ?_
            rotate_left 1
            · intro w hSw; (try dsimp only at hSw); simp only [List.getElem_toArray, List.getElem_cons_succ, List.getElem_cons_zero]; go_simp; try (with_reducible rfl)
            (try simp only [List.getElem_toArray, List.getElem_cons_succ, List.getElem_cons_zero, Act.put, List.setIfInBounds_toArray, List.set_cons_succ, List.set_cons_zero])
            refine wpAnyH_take (i := 3) (v := .bool false) rfl (by kernel_rfl) (by kernel_rfl) (by kernel_rfl) (fun _ _ _ h => h) (Or.inl ⟨by rfl, ?_⟩) (by assumption) ?_
            · intro w hSw; (try dsimp only at hSw); simp only [List.getElem_toArray, List.getElem_cons_succ, List.getElem_cons_zero]; first | (go_simp; done) | (go_simp; exact hi0) | (go_simp; exact decide_eq_true hi0) | (go_simp; exact decide_eq_false hi0) | (go_simp; simp [hi0]; done) | (go_simp; omega)
            (try simp only [List.getElem_toArray, List.getElem_cons_succ, List.getElem_cons_zero, Act.put, List.setIfInBounds_toArray, List.set_cons_succ, List.set_cons_zero])
            refine wpAnyH_take (i := 4) (v := ?_) rfl (by kernel_rfl) (by kernel_rfl) (by kernel_rfl) (fun _ _ _ h => h) (Or.inl ⟨by rfl, ?_⟩) (by assumption) ?_
            rotate_left 1
            · intro w hSw; (try dsimp only at hSw); simp only [List.getElem_toArray, List.getElem_cons_succ, List.getElem_cons_zero]; go_simp; try (with_reducible rfl)
            (try simp only [List.getElem_toArray, List.getElem_cons_succ, List.getElem_cons_zero, Act.put, List.setIfInBounds_toArray, List.set_cons_succ, List.set_cons_zero])
            refine wpAnyH_take (i := 5) (v := undef) rfl (by kernel_rfl) (by kernel_rfl) (by kernel_rfl) (fun _ _ _ h => h) (Or.inr ⟨by rfl, rfl⟩) (by assumption) ?_
            (try simp only [List.getElem_toArray, List.getElem_cons_succ, List.getElem_cons_zero, Act.put, List.setIfInBounds_toArray, List.set_cons_succ, List.set_cons_zero])
            refine wpAnyH_take (i := 6) (v := undef) rfl (by kernel_rfl) (by kernel_rfl) (by kernel_rfl) (fun _ _ _ h => h) (Or.inr ⟨by rfl, rfl⟩) (by assumption) ?_
            (try simp only [List.getElem_toArray, List.getElem_cons_succ, List.getElem_cons_zero, Act.put, List.setIfInBounds_toArray, List.set_cons_succ, List.set_cons_zero])
            refine wpAnyH_take (i := 7) (v := undef) rfl (by kernel_rfl) (by kernel_rfl) (by kernel_rfl) (fun _ _ _ h => h) (Or.inr ⟨by rfl, rfl⟩) (by assumption) ?_
            (try simp only [List.getElem_toArray, List.getElem_cons_succ, List.getElem_cons_zero, Act.put, List.setIfInBounds_toArray, List.set_cons_succ, List.set_cons_zero])
            refine wpAnyH_take (i := 8) (v := undef) rfl (by kernel_rfl) (by kernel_rfl) (by kernel_rfl) (fun _ _ _ h => h) (Or.inr ⟨by rfl, rfl⟩) (by assumption) ?_
            (try simp only [List.getElem_toArray, List.getElem_cons_succ, List.getElem_cons_zero, Act.put, List.setIfInBounds_toArray, List.set_cons_succ, List.set_cons_zero])
            refine wpAnyH_take (i := 9) (v := undef) rfl (by kernel_rfl) (by kernel_rfl) (by kernel_rfl) (fun _ _ _ h => h) (Or.inr ⟨by rfl, rfl⟩) (by assumption) ?_
            (try simp only [List.getElem_toArray, List.getElem_cons_succ, List.getElem_cons_zero, Act.put, List.setIfInBounds_toArray, List.set_cons_succ, List.set_cons_zero])
            refine wpAnyH_take (i := 10) (v := undef) rfl (by kernel_rfl) (by kernel_rfl) (by kernel_rfl) (fun _ _ _ h => h) (Or.inr ⟨by rfl, rfl⟩) (by assumption) ?_
            (try simp only [List.getElem_toArray, List.getElem_cons_succ, List.getElem_cons_zero, Act.put, List.setIfInBounds_toArray, List.set_cons_succ, List.set_cons_zero])
            refine wpAnyH_take (i := 11) (v := undef) rfl (by kernel_rfl) (by kernel_rfl) (by kernel_rfl) (fun _ _ _ h => h) (Or.inr ⟨by rfl, rfl⟩) (by assumption) ?_
            (try simp only [List.getElem_toArray, List.getElem_cons_succ, List.getElem_cons_zero, Act.put, List.setIfInBounds_toArray, List.set_cons_succ, List.set_cons_zero])
            refine wpAnyH_take (i := 12) (v := ?_) rfl (by kernel_rfl) (by kernel_rfl) (by kernel_rfl) (fun _ _ _ h => h) (Or.inl ⟨by rfl, ?_⟩) (by assumption) ?_
            rotate_left 1
            · intro w hSw; (try dsimp only at hSw); simp only [List.getElem_toArray, List.getElem_cons_succ, List.getElem_cons_zero]; go_simp; try (with_reducible rfl)
            (try simp only [List.getElem_toArray, List.getElem_cons_succ, List.getElem_cons_zero, Act.put, List.setIfInBounds_toArray, List.set_cons_succ, List.set_cons_zero])
            refine wpAnyH_take (i := 13) (v := ?_) rfl (by kernel_rfl) (by kernel_rfl) (by kernel_rfl) (fun _ _ _ h => h) (Or.inl ⟨by rfl, ?_⟩) (by assumption) ?_
            rotate_left 1
            · intro w hSw; (try dsimp only at hSw); simp only [List.getElem_toArray, List.getElem_cons_succ, List.getElem_cons_zero]; go_simp; try (with_reducible rfl)
            (try simp only [List.getElem_toArray, List.getElem_cons_succ, List.getElem_cons_zero, Act.put, List.setIfInBounds_toArray, List.set_cons_succ, List.set_cons_zero])
            refine wpAnyH_take (i := 14) (v := undef) rfl (by kernel_rfl) (by kernel_rfl) (by kernel_rfl) (fun _ _ _ h => h) (Or.inr ⟨by rfl, rfl⟩) (by assumption) ?_
            (try simp only [List.getElem_toArray, List.getElem_cons_succ, List.getElem_cons_zero, Act.put, List.setIfInBounds_toArray, List.set_cons_succ, List.set_cons_zero])
            refine wpAnyH_take (i := 15) (v := undef) rfl (by kernel_rfl) (by kernel_rfl) (by kernel_rfl) (fun _ _ _ h => h) (Or.inr ⟨by rfl, rfl⟩) (by assumption) ?_
            (try simp only [List.getElem_toArray, List.getElem_cons_succ, List.getElem_cons_zero, Act.put, List.setIfInBounds_toArray, List.set_cons_succ, List.set_cons_zero])
            refine wpAnyH_take (i := 16) (v := undef) rfl (by kernel_rfl) (by kernel_rfl) (by kernel_rfl) (fun _ _ _ h => h) (Or.inr ⟨by rfl, rfl⟩) (by assumption) ?_
            (try simp only [List.getElem_toArray, List.getElem_cons_succ, List.getElem_cons_zero, Act.put, List.setIfInBounds_toArray, List.set_cons_succ, List.set_cons_zero])
            refine wpAnyH_take (i := 17) (v := undef) rfl (by kernel_rfl) (by kernel_rfl) (by kernel_rfl) (fun _ _ _ h => h) (Or.inr ⟨by rfl, rfl⟩) (by assumption) ?_
            (try simp only [List.getElem_toArray, List.getElem_cons_succ, List.getElem_cons_zero, Act.put, List.setIfInBounds_toArray, List.set_cons_succ, List.set_cons_zero])
            refine wpAnyH_take (i := 18) (v := undef) rfl (by kernel_rfl) (by kernel_rfl) (by kernel_rfl) (fun _ _ _ h => h) (Or.inr ⟨by rfl, rfl⟩) (by assumption) ?_
            (try simp only [List.getElem_toArray, List.getElem_cons_succ, List.getElem_cons_zero, Act.put, List.setIfInBounds_toArray, List.set_cons_succ, List.set_cons_zero])
            refine wpAnyH_take (i := 19) (v := undef) rfl (by kernel_rfl) (by kernel_rfl) (by kernel_rfl) (fun _ _ _ h => h) (Or.inr ⟨by rfl, rfl⟩) (by assumption) ?_
            (try simp only [List.getElem_toArray, List.getElem_cons_succ, List.getElem_cons_zero, Act.put, List.setIfInBounds_toArray, List.set_cons_succ, List.set_cons_zero])
            refine wpAnyH_take (i := 20) (v := undef) rfl (by kernel_rfl) (by kernel_rfl) (by kernel_rfl) (fun _ _ _ h => h) (Or.inr ⟨by rfl, rfl⟩) (by assumption) ?_
            (try simp only [List.getElem_toArray, List.getElem_cons_succ, List.getElem_cons_zero, Act.put, List.setIfInBounds_toArray, List.set_cons_succ, List.set_cons_zero])
            refine wpAnyH_take (i := 21) (v := undef) rfl (by kernel_rfl) (by kernel_rfl) (by kernel_rfl) (fun _ _ _ h => h) (Or.inr ⟨by rfl, rfl⟩) (by assumption) ?_
            (try simp only [List.getElem_toArray, List.getElem_cons_succ, List.getElem_cons_zero, Act.put, List.setIfInBounds_toArray, List.set_cons_succ, List.set_cons_zero])
            refine wpAnyH_take (i := 22) (v := undef) rfl (by kernel_rfl) (by kernel_rfl) (by kernel_rfl) (fun _ _ _ h => h) (Or.inr ⟨by rfl, rfl⟩) (by assumption) ?_
            (try simp only [List.getElem_toArray, List.getElem_cons_succ, List.getElem_cons_zero, Act.put, List.setIfInBounds_toArray, List.set_cons_succ, List.set_cons_zero])
            refine wpAnyH_take (i := 23) (v := undef) rfl (by kernel_rfl) (by kernel_rfl) (by kernel_rfl) (fun _ _ _ h => h) (Or.inr ⟨by rfl, rfl⟩) (by assumption) ?_
            (try simp only [List.getElem_toArray, List.getElem_cons_succ, List.getElem_cons_zero, Act.put, List.setIfInBounds_toArray, List.set_cons_succ, List.set_cons_zero])
            refine wpAnyH_take (i := 24) (v := undef) rfl (by kernel_rfl) (by kernel_rfl) (by kernel_rfl) (fun _ _ _ h => h) (Or.inr ⟨by rfl, rfl⟩) (by assumption) ?_
            (try simp only [List.getElem_toArray, List.getElem_cons_succ, List.getElem_cons_zero, Act.put, List.setIfInBounds_toArray, List.set_cons_succ, List.set_cons_zero])
            refine wpAnyH_take (i := 25) (v := undef) rfl (by kernel_rfl) (by kernel_rfl) (by kernel_rfl) (fun _ _ _ h => h) (Or.inr ⟨by rfl, rfl⟩) (by assumption) ?_
            (try simp only [List.getElem_toArray, List.getElem_cons_succ, List.getElem_cons_zero, Act.put, List.setIfInBounds_toArray, List.set_cons_succ, List.set_cons_zero])
            refine wpAnyH_take (i := 26) (v := ?_) rfl (by kernel_rfl) (by kernel_rfl) (by kernel_rfl) (fun _ _ _ h => h) (Or.inl ⟨by rfl, ?_⟩) (by assumption) ?_
            rotate_left 1
            · intro w hSw; (try dsimp only at hSw); simp only [List.getElem_toArray, List.getElem_cons_succ, List.getElem_cons_zero]; go_simp; try (with_reducible rfl)
            (try simp only [List.getElem_toArray, List.getElem_cons_succ, List.getElem_cons_zero, Act.put, List.setIfInBounds_toArray, List.set_cons_succ, List.set_cons_zero])
            refine wpAnyH_done (by kernel_rfl) ?_ _
            have hok := hres.1
            have KD := below_dr (Below.refl wc.heap.size wc)
            have s0 := (K9c.out _ KD).1
            have s1 := (K9c.out _ KD).2.1
            have KR := (K9c.out _ KD).2.2
            have hBd := below_dr hBc
            go_upto_region 14 with (first
              | ((with_reducible refine at_load 26 (.tmp 82) ?_); refine wpList_load_mid rfl 26 (.tmp 82) rfl (w.heap.size) (0 + 2) (by first | rfl | simp [Act.eval]) [.int .i64 c, .int .i64 i, .slice AP m cP] _ KR Tryd.underlying26 rfl (by kernel_rfl) ?_)
              | (go_at_call 17; refine (GE.out _ hBd).mono ?_; rintro e' y3 ⟨A1, n1, c1, A2, n2, c2, rfl, ha, hb, e3⟩))
            have hB3 := below_more hBd e3
            clear s0 s1 KR KD e3 hBd
            obtain ⟨_, hne, hds, hla, hlb⟩ := hres
            subst hok
            have hab : (a == b) = false := by simpa using hne
            have hcv1 := conv8 y3 A1 n1 c1 a ha.1
            have hcv2 := conv8 y3 A2 n2 c2 b hb.1
            obtain ⟨V, hV⟩ : ∃ V, V = (ds a).map B8 := ⟨_, rfl⟩
            have C1 : Hid (Calls Tryd.prog 19 #[.slice (some ⟨y3.heap.size, 0, none⟩) 1 1] (y3.alloc (.cells #[.slice A1 n1 c1] 23)) (Ret (y3.alloc (.cells #[.slice A1 n1 c1] 23)) (.agg V.toArray))) := Lib.hid (by rw [hV]; exact CT.out y3 A1 n1 c1 a hB3 ha.1 ha.2.1 ha.2.2 hla)
            have C2 : Hid (∀ W, Below y3.heap.size y3 W → Calls Tryd.prog 19 #[.slice (some ⟨W.heap.size, 0, none⟩) 1 1] (W.alloc (.cells #[.slice A2 n2 c2] 23)) (Ret (W.alloc (.cells #[.slice A2 n2 c2] 23)) (.agg V.toArray))) := Lib.hid fun W h => by rw [hV, hds]; exact CT.out W A2 n2 c2 b (below_more hB3 h) (hb.1.below h) hb.2.1 hb.2.2 hlb
            have heq : ∀ W, (Op.equalIn 10000 47 (.agg V.toArray) (.agg V.toArray)).run Tryd.prog W = .ok true W := fun W => by rw [hV]; exact eqG32 _ _ (ds_len _) (ds_len _) true (by simp) W
            clear hV hds CT
            go_wp2_with (first
              | (go_at_call 19; first | ((with_reducible refine C1.out.mono ?_); rintro e' y4 ⟨rfl, e4⟩; have hy4 : Below y3.heap.size y3 y4 := below_more (below_al (Below.refl _ _) _) e4) | ((with_reducible refine (C2.out y4 hy4).mono ?_); rintro e' y5 ⟨rfl, e5⟩; have hB5 := below_more hB3 (below_more (below_al hy4 _) e5)))
              | (go_at_call 9; refine (CA.out _ hB5).mono ?_; rintro e' v9 ⟨rfl, d9⟩))
            go_ret
            exact ⟨by first | rfl | simp [hab], below_more hB5 d9⟩
end Go.Proofs.YtpoinhjkdgcnaaaDoor
