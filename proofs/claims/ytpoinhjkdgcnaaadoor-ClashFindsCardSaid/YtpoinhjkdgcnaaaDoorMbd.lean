/- Merged texts: ClaD. -/
import Derived.Test.YtpoinhjkdgcnaaaDoorMbc
/- The contract of the document's own Claim of layer 10. -/
namespace Go.Proofs.YtpoinhjkdgcnaaaDoor
open Go.RowKit
set_option linter.unusedVariables false
set_option linter.unusedSimpArgs false

set_option maxRecDepth 100000 in
theorem ix_half (a : Nat) : ∀ k, ix (a / 2) k = ix a (k + 1)
  | 0 => rfl
  | k + 1 => by rw [ix, ix_half a k]; rfl
set_option maxRecDepth 100000 in
theorem ix_down (i : Nat) : ∀ t, ix i t ≤ i
  | 0 => Nat.le_refl _
  | t + 1 => by
    have := ix_down i t
    show ix i t / 2 ≤ i
    omega
set_option maxRecDepth 100000 in
theorem hat_zero (x : List UInt8) (L : List (List UInt8)) : hat (x :: L) 0 = x := rfl
set_option maxRecDepth 100000 in
theorem hat_next (x : List UInt8) (L : List (List UInt8)) (i : Nat) : hat (x :: L) (i + 1) = hat L i := by unfold hat; simp
set_option maxRecDepth 100000 in
theorem clm_zero (P : List (List UInt8)) (a : Nat) (t : List UInt8) : hat (clm a t P) 0 = t := by cases P <;> rfl
set_option maxRecDepth 100000 in
theorem clm_at : ∀ (P : List (List UInt8)) (a : Nat) (t : List UInt8) (k : Nat), k < P.length → hat (clm a t P) (k + 1) = cp (ix a k) (ds (hat (clm a t P) k)) (hat P k)
  | [], _, _, _, h => by simp at h
  | b :: r, a, t, 0, _ => by
    rw [clm, hat_next, clm_zero]
    rfl
  | b :: r, a, t, k + 1, h => by
    rw [clm, hat_next, clm_at r (a / 2) _ k (by simpa using h), ix_half, hat_next, hat_next]
set_option maxRecDepth 100000 in
theorem clm_small (P : List (List UInt8)) (a : Nat) (t : List UInt8) (hP : ∀ p ∈ P, p.length = 32) (ht : t.length ≤ 100000) : ∀ k, k < P.length + 1 → (hat (clm a t P) k).length ≤ 100000
  | 0, _ => by rw [clm_zero]; exact ht
  | k + 1, h => by
    rw [clm_at P a t k (by omega), cp_len _ _ _ (ds_len _) (hat_32 hP (by omega))]
    omega
set_option maxRecDepth 100000 in
set_option maxHeartbeats 4000000 in
theorem dclaim_bad (c i : Int) (A : Option Addr) (m cap E : Nat) (t : List UInt8) (w : World) (hE : rgt c i m = E) (h0 : ¬ E = 0) : Calls Tryd.prog 15 #[STR t, .agg #[.int .i64 c, .int .i64 i, .slice A m cap]] w (Ret w (.slice none 0 0)) := by
  have CR : Hid (∀ W, Calls Tryd.prog 32 #[.agg #[.int .i64 c, .int .i64 i, .slice A m cap]] W (Ret W (.int .i64 (E : Int)))) := Lib.hid fun W => by rw [← hE]; exact dright_calls c i A m cap W
  have h1 : ¬ (E : Int) = 0 := by omega
  clear hE
  obtain ⟨w0, hw0⟩ : ∃ x, x = w.alloc (.cells #[.int .i64 c, .int .i64 i, .slice A m cap] 40) := ⟨_, rfl⟩
  have hB0 : Below w.heap.size w w0 := by rw [hw0]; exact below_al (Below.refl _ _) _
  have hk0 : Blk w0 w.heap.size [.int .i64 c, .int .i64 i, .slice A m cap] 40 := by rw [hw0]; exact Blk.new w _ _
  have hw1 : w.alloc (.cells #[.int .i64 c, .int .i64 i, .slice A m cap] 40) = w0 := hw0.symm
  clear hw0
  go_enter Tryd.func15, Tryd.ntmps15
  go_upto_region 1 with fail
  try rw [hw1]
  clear hw1
  go_wp2_with (first
    | ((with_reducible refine at_load 40 (.tmp 3) ?_); refine wpList_load_mid rfl 40 (.tmp 3) rfl (w.heap.size) (0) (by first | rfl | simp [Act.eval]) [.int .i64 c, .int .i64 i, .slice A m cap] _ (Blk.range hk0) Tryd.underlying40 rfl (by kernel_rfl) ?_)
    | (go_at_call 32; refine (CR.out _).mono ?_; rintro e' x1 ⟨rfl, d1⟩))
  go_ret
  exact ⟨rfl, below_more hB0 d1⟩
set_option maxRecDepth 100000 in
set_option maxHeartbeats 4000000 in
theorem dclaim_good (n i : Nat) (A : Option Addr) (m cap : Nat) (P : List (List UInt8)) (t : List UInt8) (w : World) (hr : RdH w A m P) (hm : m = depth n) (hi : i < n) (hn : n ≤ 65536) (ht : t.length ≤ 100000) :
    Calls Tryd.prog 15 #[STR t, .agg #[.int .i64 (n : Int), .int .i64 (i : Int), .slice A m cap]] w fun e w' => ∃ A' c', e = .returned (.slice A' (m + 1) c') ∧ OwnS w' w.heap.size A' (m + 1) c' (clm i t P) ∧ Below w.heap.size w w' := by
  have hm16 : m ≤ 16 := by rw [hm]; exact depth_16 n hn
  have hrg : rgt (n : Int) (i : Int) m = 0 := by unfold rgt; rw [if_neg (by omega), if_neg (by rw [hm, Int.toNat_natCast]; simp)]
  have CR : Hid (∀ W, Calls Tryd.prog 32 #[.agg #[.int .i64 (n : Int), .int .i64 (i : Int), .slice A m cap]] W (Ret W (.int .i64 0))) := Lib.hid fun W => by have := dright_calls (n : Int) (i : Int) A m cap W; rw [hrg] at this; exact this
  have hln := hr.len
  have HR := Lib.hid hr
  have HSM : Hid (∀ k, k < m + 1 → (hat (clm i t P) k).length ≤ 100000) := Lib.hid fun k hk => clm_small P i t hr.all ht k (by omega)
  have HAT : Hid (∀ k, k < m → hat (clm i t P) (k + 1) = cp (ix i k) (ds (hat (clm i t P) k)) (hat P k)) := Lib.hid fun k hk => clm_at P i t k (by omega)
  have HLC : Hid ((clm i t P).length = m + 1) := Lib.hid (by rw [clm_len, hln])
  have HIL := Lib.hid (fun k => ix_down i k)
  have hi6 : i ≤ 65536 := by omega
  have hT1 : OwnS w w.heap.size none 0 0 [] := OwnS.nil _ _
  have H0 : Hid (clm i t P = clm i t P ∧ (clm i t P).take 1 = [t]) := Lib.hid ⟨rfl, by cases P <;> rfl⟩
  have hsa : ∀ (q o : Nat) W, (Instr.sliceAt 46 (.pointer (some ⟨q, o, none⟩)) none none none).run Tryd.prog W = .ok (.slice (some ⟨q, o, none⟩) 32 32) W := fun q o W => run_sl_all 46 5 32 Tryd.underlying46 size8 q o (by omega) W
  clear hrg hr hm ht
  obtain ⟨w0, hw0⟩ : ∃ x, x = w.alloc (.cells #[.int .i64 (n : Int), .int .i64 (i : Int), .slice A m cap] 40) := ⟨_, rfl⟩
  have hs0 : w0.heap.size = w.heap.size + 1 := by rw [hw0]; simp
  have hB0 : Below w.heap.size w w0 := by rw [hw0]; exact below_al (Below.refl _ _) _
  have hk0 : Blk w0 w.heap.size [.int .i64 (n : Int), .int .i64 (i : Int), .slice A m cap] 40 := by rw [hw0]; exact Blk.new w _ _
  have hw1 : w.alloc (.cells #[.int .i64 (n : Int), .int .i64 (i : Int), .slice A m cap] 40) = w0 := hw0.symm
  clear hw0
  go_enter Tryd.func15, Tryd.ntmps15
  go_upto_region 1 with fail
  try rw [hw1]
  clear hw1
  go_upto_region 4 with (first
    | ((with_reducible refine at_load 40 (.tmp 3) ?_); refine wpList_load_mid rfl 40 (.tmp 3) rfl (w.heap.size) (0) (by first | rfl | simp [Act.eval]) [.int .i64 (n : Int), .int .i64 (i : Int), .slice A m cap] _ (Blk.range hk0) Tryd.underlying40 rfl (by kernel_rfl) ?_)
    | (go_at_call 32; refine (CR.out _).mono ?_; rintro e' x1 ⟨rfl, d1⟩)
    | ((with_reducible refine at_bsP 33 1 #[(0, .tmp 13)] ?_); refine wpList_bsS rfl (.tmp 13) rfl t (by first | rfl | (simp [Act.eval]; done)) ?_; intro g1 x2 hb2 hg2 hl2 hf2 hB2))
  have hd1 := d1.size
  have hBx2 : Below w.heap.size w x2 := below_more (below_more hB0 d1) hB2
  have hk2 := (hk0.up d1).stepF hf2
  have s1 : x2.cell? ⟨w.heap.size, 1, none⟩ = some (.int .i64 (i : Int)) := hk2.cell 1
  have s2 : x2.cell? ⟨w.heap.size, 2, none⟩ = some (.slice A m cap) := hk2.cell 2
  have hown0 : OwnS x2 w.heap.size (some ⟨g1, 0, none⟩) 1 1 ((clm i t P).take 1) := by
    rw [H0.out.2]
    exact ⟨rfl, rfl, .inr ⟨g1, 1, #[STR t], rfl, by omega, hb2, by omega, by unfold maxLen; omega, rfl, rfl⟩⟩
  clear hb2 hf2 hB2 d1 hk0 hk2
  go_wp2
  go_loopw [20, 5, 6] (fun kv ov av wr => ∃ (k : Nat) (A1 : Option Addr) (c1 : Nat), kv = .int .i64 (k : Int) ∧ ov = .slice A1 (k + 1) c1 ∧ av = .int .i64 ((ix i k : Nat) : Int) ∧ k ≤ m ∧ OwnS wr w.heap.size A1 (k + 1) c1 ((clm i t P).take (k + 1)) ∧ Below w.heap.size w wr) (fun kv _ _ _ => m - (intOf kv).toNat)
  case atStart => exact ⟨0, _, 1, by first | rfl | go_num, rfl, rfl, by omega, hown0, hBx2⟩
  case round =>
    obtain ⟨k, A1, c1, rfl, rfl, rfl, hkm, ho, hB⟩ := hrel
    obtain ⟨wo, hwo⟩ : ∃ x, x = wr := ⟨_, rfl⟩
    rw [← hwo] at ho hB ⊢
    clear hwo hown0 hBx2 s1 s2
    obtain ⟨k1, hk1⟩ : ∃ x, x = k + 1 := ⟨_, rfl⟩
    obtain ⟨a, ha⟩ : ∃ x, x = ix i k := ⟨_, rfl⟩
    rw [← hk1] at ho ⊢
    rw [← ha]
    by_cases hlt : k < m
    · have hlt' : (k : Int) < (m : Int) := by omega
      obtain ⟨y, hy⟩ : ∃ y, y = hat (clm i t P) k := ⟨_, rfl⟩
      have y1 : y.length ≤ 100000 := by rw [hy]; exact HSM.out k (by omega)
      obtain ⟨x, hx⟩ : ∃ x, x = ds y := ⟨_, rfl⟩
      have x32 : x.length = 32 := by rw [hx]; exact ds_len _
      obtain ⟨X, hX⟩ : ∃ V, V = x.map B8 := ⟨_, rfl⟩
      have HX := Lib.hid hX
      have HX32 := Lib.hid x32
      have IX : Hid ((Tryd.prog.info? 46).map (·.size) = some X.length) := Lib.hid (by rw [hX, List.length_map, x32]; kernel_rfl)
      have LX : Hid (z32.length = X.length) := Lib.hid (by rw [hX, List.length_map, x32]; rfl)
      have OX : Hid (∀ v ∈ X, v.oneCell' = true) := Lib.hid (by rw [hX]; exact b8_one _)
      obtain ⟨b, hb⟩ : ∃ x, x = hat P k := ⟨_, rfl⟩
      have b32 : b.length = 32 := by rw [hb]; exact hat_32 HR.out.all (by omega)
      obtain ⟨B, hB_⟩ : ∃ V, V = b.map B8 := ⟨_, rfl⟩
      have HB := Lib.hid hB_
      have HB32 := Lib.hid b32
      have IB : Hid ((Tryd.prog.info? 46).map (·.size) = some B.length) := Lib.hid (by rw [hB_, List.length_map, b32]; kernel_rfl)
      have LB : Hid (z32.length = B.length) := Lib.hid (by rw [hB_, List.length_map, b32]; rfl)
      have OB : Hid (∀ v ∈ B, v.oneCell' = true) := Lib.hid (by rw [hB_]; exact b8_one _)
      have hnx : (clm i t P).take (k1 + 1) = (clm i t P).take k1 ++ [cp a x b] := by
        rw [take_hat _ k1 (by rw [HLC.out]; omega), hk1, HAT.out k hlt, ← ha, ← hy, ← hx, ← hb]
      obtain ⟨J, hJ⟩ : ∃ J, J = (clm i t P).take k1 := ⟨_, rfl⟩
      rw [← hJ] at ho hnx
      have HYJ : Hid (hat J k = y) := Lib.hid (by
        rw [hJ, hy]
        unfold hat
        rw [List.getD_eq_getElem?_getD, List.getD_eq_getElem?_getD, List.getElem?_take, if_pos (by omega)])
      obtain ⟨a', ha'⟩ : ∃ x, x = a / 2 := ⟨_, rfl⟩
      have HA' : Hid (ix i k1 = a') := Lib.hid (by rw [ha', ha, hk1]; rfl)
      have HK1 : Hid (k1 = k + 1) := Lib.hid hk1
      have CT : Hid (∀ W : World, Calls Tryd.prog 27 #[STR y] W (Ret W (.agg X.toArray))) := Lib.hid fun W => by
        have := rtwice_calls ⟨y.toArray⟩ W (by rw [bstr_size]; exact y1)
        rw [hX, hx]
        exact this
      have ha6 : a ≤ 65536 := by rw [ha]; have := HIL.out k; omega
      have u1 : IntKind.i64.wrap ((k1 : Int) - 1) = (k : Int) := by rw [IntKind.wrap_i64]; omega
      have t1 : (k : Int) < (k1 : Int) := by omega
      have q1 : Int.tdiv (a : Int) 2 = (a' : Int) := by rw [Int.tdiv_eq_ediv_of_nonneg (by omega)]; omega
      have q2 : (a : Int) / 2 = (a' : Int) := by omega
      have q3 : IntKind.i64.wrap (a' : Int) = (a' : Int) := by rw [IntKind.wrap_i64]; omega
      have hk16 : k1 ≤ 17 := by omega
      obtain ⟨bb, off, rfl, hbl, hga⟩ := (HR.out.below hB).at_ hlt
      rw [← hb, ← hB_] at hga
      have szB := hB.size
      clear hy hx hX x32 hb hB_ b32 hJ ha ha' hk1 y1
      go_upto_region 8 with (first
        | ((with_reducible refine at_load 46 (.tmp 22) ?_); refine wpList_load_mid rfl 46 (.tmp 22) rfl (bb) (off + k * 32) (by first | rfl | simp [Act.eval]) B _ (hga) Tryd.underlying46 rfl IB.out ?_)
        | ((with_reducible refine at_alloc 46 ?_); refine wpList_allocT rfl 46 z32 (by kernel_rfl) rfl w.heap.size w hB (Nat.le_refl _) ?_; intro gb z8 hkb hgz8 hlz8 hfz8 hB; have ho := ho.frm hfz8 (fun _ _ h => h))
        | ((with_reducible refine at_store 46 (.tmp 8) (.tmp 23) ?_); have nb := ho.ne_blk hkb (by decide); refine wpList_store_blk rfl 46 (.tmp 8) (.tmp 23) rfl gb z32 B 46 rfl rfl hkb LB.out IB.out OB.out ?_; intro s8 hkb hos8; have ho := ho.frm (Frm.only hos8 (S := fun i => i = gb) rfl) (fun q hq e => nb q hq e); have hB := hB.trans (hos8.below (by omega)); have szs8 := hos8.size))
      obtain ⟨q, qo, rfl, hq, sc⟩ := ho.rd.at_ (k := k) (by omega)
      rw [HYJ.out] at sc
      go_upto_region 9 with (first
        | (go_at_call 27; refine (CT.out _).mono ?_; rintro e' y9 ⟨rfl, e9⟩; have ho := ho.up e9; have hB := below_more hB e9; have hkb := hkb.up e9; have sz9 := e9.size)
        | ((with_reducible refine at_alloc 46 ?_); refine wpList_allocT rfl 46 z32 (by kernel_rfl) rfl w.heap.size w hB (Nat.le_refl _) ?_; intro gx z9 hkx hgz9 hlz9 hfz9 hB; have ho := ho.frm hfz9 (fun _ _ h => h); have hkb := hkb.stepF hfz9)
        | ((with_reducible refine at_store 46 (.tmp 9) (.tmp 30) ?_); have nb := ho.ne_blk hkx (by decide); refine wpList_store_blk rfl 46 (.tmp 9) (.tmp 30) rfl gx z32 X 46 rfl rfl hkx LX.out IX.out OX.out ?_; intro z9 hkx hoz9; have ho := ho.frm (Frm.only hoz9 (S := fun i => i = gx) rfl) (fun q hq e => nb q hq e); have hB := hB.trans (hoz9.below (by omega)); have szz9 := hoz9.size; have hkb := hoz9.blk hkb (by omega)))
      clear sc hga
      by_cases hev : a % 2 = 0
      · skip
        have r1 : Int.tmod (a : Int) 2 = 0 := by rw [Int.tmod_eq_emod_of_nonneg (by omega)]; omega
        have r2 : (a : Int) % 2 = 0 := by omega
        have r3 : IntKind.i64.wrap 0 = 0 := by rw [IntKind.wrap_i64]; omega
        have hcp : cp a x b = x ++ b := by unfold cp; rw [if_pos hev]
        rw [hcp] at hnx
        have HNX := Lib.hid hnx
        have hadd : ∀ W, (Op.stringOp .add ⟨x.toArray⟩ ⟨b.toArray⟩).run Tryd.prog W = .ok (.string ⟨(x ++ b).toArray⟩) W := fun W => bstr_add x b (by rw [HX32.out]; omega) (by rw [HB32.out]; omega) W
        have CX : Hid (∀ W : World, Blk W gx X 46 → (convert 23 9 (.slice (some ⟨gx, 0, none⟩) 32 32)).run Tryd.prog W = .ok (.string ⟨x.toArray⟩) W) := Lib.hid fun W h => conv8 W _ 32 32 x (hash_rd h HX.out HX32.out)
        have CY : Hid (∀ W : World, Blk W gb B 46 → (convert 23 9 (.slice (some ⟨gb, 0, none⟩) 32 32)).run Tryd.prog W = .ok (.string ⟨b.toArray⟩) W) := Lib.hid fun W h => conv8 W _ 32 32 b (hash_rd h HB.out HB32.out)
        clear hnx hcp hev
        go_upto_region 10 with fail
        refine wp_region_held_drew (S := fun W => (convert 23 9 (.slice (some ⟨gx, 0, none⟩) 32 32)).run Tryd.prog W = .ok (.string ⟨x.toArray⟩) W ∧ (convert 23 9 (.slice (some ⟨gb, 0, none⟩) 32 32)).run Tryd.prog W = .ok (.string ⟨b.toArray⟩) W) (by kernel_rfl) ?_ (fun hHeld => ?_)
        · exact ⟨CX.out _ hkx.drew, CY.out _ hkb.drew⟩
        refine wpAnyH_take (i := 0) (v := ?_) rfl (by kernel_rfl) (by kernel_rfl) (by kernel_rfl) (fun _ _ _ h => h) (Or.inl ⟨by rfl, ?_⟩) (by assumption) ?_
        rotate_left 1
        · intro w hSw; (try dsimp only at hSw); simp only [List.getElem_toArray, List.getElem_cons_succ, List.getElem_cons_zero]; go_simp; try (with_reducible rfl)
        (try simp only [List.getElem_toArray, List.getElem_cons_succ, List.getElem_cons_zero, Act.put, List.setIfInBounds_toArray, List.set_cons_succ, List.set_cons_zero])
        refine wpAnyH_take (i := 1) (v := .slice (some ⟨gx, 0, none⟩) 32 32) rfl (by kernel_rfl) (by kernel_rfl) (by kernel_rfl) (fun _ _ _ h => h) (Or.inl ⟨by rfl, ?_⟩) (by assumption) ?_
        · intro w hSw; (try dsimp only at hSw); simp only [List.getElem_toArray, List.getElem_cons_succ, List.getElem_cons_zero]; first | (go_simp; done) | (simp [execOp, Act.eval, hsa]; done)
        (try simp only [List.getElem_toArray, List.getElem_cons_succ, List.getElem_cons_zero, Act.put, List.setIfInBounds_toArray, List.set_cons_succ, List.set_cons_zero])
        refine wpAnyH_take (i := 2) (v := .string ⟨x.toArray⟩) rfl (by kernel_rfl) (by kernel_rfl) (by kernel_rfl) (fun _ _ _ h => h) (Or.inl ⟨by rfl, ?_⟩) (by assumption) ?_
        · intro w hSw; (try dsimp only at hSw); simp only [List.getElem_toArray, List.getElem_cons_succ, List.getElem_cons_zero]; have hc := hSw.1; first | (simp [execOp, Act.eval, hc]; done) | (go_simp; done)
        (try simp only [List.getElem_toArray, List.getElem_cons_succ, List.getElem_cons_zero, Act.put, List.setIfInBounds_toArray, List.set_cons_succ, List.set_cons_zero])
        refine wpAnyH_take (i := 3) (v := .slice (some ⟨gb, 0, none⟩) 32 32) rfl (by kernel_rfl) (by kernel_rfl) (by kernel_rfl) (fun _ _ _ h => h) (Or.inl ⟨by rfl, ?_⟩) (by assumption) ?_
        · intro w hSw; (try dsimp only at hSw); simp only [List.getElem_toArray, List.getElem_cons_succ, List.getElem_cons_zero]; first | (go_simp; done) | (simp [execOp, Act.eval, hsa]; done)
        (try simp only [List.getElem_toArray, List.getElem_cons_succ, List.getElem_cons_zero, Act.put, List.setIfInBounds_toArray, List.set_cons_succ, List.set_cons_zero])
        refine wpAnyH_take (i := 4) (v := .string ⟨b.toArray⟩) rfl (by kernel_rfl) (by kernel_rfl) (by kernel_rfl) (fun _ _ _ h => h) (Or.inl ⟨by rfl, ?_⟩) (by assumption) ?_
        · intro w hSw; (try dsimp only at hSw); simp only [List.getElem_toArray, List.getElem_cons_succ, List.getElem_cons_zero]; have hc := hSw.2; first | (simp [execOp, Act.eval, hc]; done) | (go_simp; done)
        (try simp only [List.getElem_toArray, List.getElem_cons_succ, List.getElem_cons_zero, Act.put, List.setIfInBounds_toArray, List.set_cons_succ, List.set_cons_zero])
        refine wpAnyH_take (i := 5) (v := ?_) rfl (by kernel_rfl) (by kernel_rfl) (by kernel_rfl) (fun _ _ _ h => h) (Or.inl ⟨by rfl, ?_⟩) (by assumption) ?_
        rotate_left 1
        · intro w hSw; (try dsimp only at hSw); simp only [List.getElem_toArray, List.getElem_cons_succ, List.getElem_cons_zero]; go_simp; try (with_reducible rfl)
        (try simp only [List.getElem_toArray, List.getElem_cons_succ, List.getElem_cons_zero, Act.put, List.setIfInBounds_toArray, List.set_cons_succ, List.set_cons_zero])
        refine wpAnyH_ready (rs := [6]) (by kernel_rfl) (by simp) ?_
        refine AllReadyH.cons rfl (fun K hK => ?_) AllReadyH.nil
        (try simp only [List.getElem_toArray, List.getElem_cons_succ, List.getElem_cons_zero])
        refine Eq.mpr (if_pos (by first | rfl | simp [Region.wanted, yielded, Act.put])) ?_
        refine wp_bsS _ rfl (x ++ b) (by first | rfl | simp [Act.eval]) ?_
        intro g6 x6 hb6 hg6 hl6 hf6 hB6
        have sz6 : z9.heap.size ≤ x6.heap.size := hf6.size
        have hkx := hkx.drew.stepF hf6
        have hkb := hkb.drew.stepF hf6
        have ho := (ho.up (below_dr (Below.refl _ _))).frm hf6 (fun _ _ h => h)
        have hB := (below_dr hB).trans (hB6.mono (below_dr hB).size)
        refine hK.out _ _ ?_ (fun hHeld => ?_)
        · exact ⟨CX.out _ hkx, CY.out _ hkb⟩
        clear hK K
        (try simp only [Act.put, List.setIfInBounds_toArray, List.set_cons_succ, List.set_cons_zero])
        refine wpAnyH_ready (rs := [7]) (by kernel_rfl) (by simp) ?_
        refine AllReadyH.cons rfl (fun K hK => ?_) AllReadyH.nil
        (try simp only [List.getElem_toArray, List.getElem_cons_succ, List.getElem_cons_zero])
        refine Eq.mpr (if_pos (by first | rfl | simp [Region.wanted, yielded, Act.put])) ?_
        have n10 := ho.ne_blk hkx (by decide)
        have n11 := ho.ne_blk hkb (by decide)
        refine wp_appS (.tmp 34) (.tmp 40) rfl w.heap.size w hB (Nat.le_refl _) (some ⟨q, qo, none⟩) k1 c1 J (by first | rfl | simp [Act.eval]) ho g6 (x ++ b) (by first | rfl | simp [Act.eval]) hb6 (by omega) ?_
        intro A7 c7 x7 ho7 hf7 hB
        have sz7 := hf7.size
        have hkx := hf7.blk hkx (fun h => n10 _ h rfl)
        have hkb := hf7.blk hkb (fun h => n11 _ h rfl)
        refine hK.out _ _ ?_ (fun hHeld => ?_)
        · exact ⟨CX.out _ hkx, CY.out _ hkb⟩
        clear hK K
        (try simp only [Act.put, List.setIfInBounds_toArray, List.set_cons_succ, List.set_cons_zero])
        refine wpAnyH_take (i := 8) (v := ?_) rfl (by kernel_rfl) (by kernel_rfl) (by kernel_rfl) (fun _ _ _ h => h) (Or.inl ⟨by rfl, ?_⟩) (by assumption) ?_
        rotate_left 1
        · intro w hSw; (try dsimp only at hSw); simp only [List.getElem_toArray, List.getElem_cons_succ, List.getElem_cons_zero]; go_simp; try (with_reducible rfl)
        (try simp only [List.getElem_toArray, List.getElem_cons_succ, List.getElem_cons_zero, Act.put, List.setIfInBounds_toArray, List.set_cons_succ, List.set_cons_zero])
        refine wpAnyH_done (by kernel_rfl) ?_ _
        clear hb6 hf6 hB6 hf7 hkb hkx ho
        go_wp2
        go_roundw
        case rel => exact ⟨k1, A7, c7, by rw [HK1.out]; go_num, rfl, by rw [HA'.out], by have := HK1.out; omega, by rw [HNX.out]; exact ho7, hB⟩
        case measure => simp [intOf]; omega
      · skip
        have r1 : Int.tmod (a : Int) 2 = 1 := by rw [Int.tmod_eq_emod_of_nonneg (by omega)]; omega
        have r2 : (a : Int) % 2 = 1 := by omega
        have r3 : IntKind.i64.wrap 1 = 1 := by rw [IntKind.wrap_i64]; omega
        have hcp : cp a x b = b ++ x := by unfold cp; rw [if_neg hev]
        rw [hcp] at hnx
        have HNX := Lib.hid hnx
        have hadd : ∀ W, (Op.stringOp .add ⟨b.toArray⟩ ⟨x.toArray⟩).run Tryd.prog W = .ok (.string ⟨(b ++ x).toArray⟩) W := fun W => bstr_add b x (by rw [HB32.out]; omega) (by rw [HX32.out]; omega) W
        have CX : Hid (∀ W : World, Blk W gb B 46 → (convert 23 9 (.slice (some ⟨gb, 0, none⟩) 32 32)).run Tryd.prog W = .ok (.string ⟨b.toArray⟩) W) := Lib.hid fun W h => conv8 W _ 32 32 b (hash_rd h HB.out HB32.out)
        have CY : Hid (∀ W : World, Blk W gx X 46 → (convert 23 9 (.slice (some ⟨gx, 0, none⟩) 32 32)).run Tryd.prog W = .ok (.string ⟨x.toArray⟩) W) := Lib.hid fun W h => conv8 W _ 32 32 x (hash_rd h HX.out HX32.out)
        clear hnx hcp hev
        go_upto_region 11 with fail
        refine wp_region_held_drew (S := fun W => (convert 23 9 (.slice (some ⟨gb, 0, none⟩) 32 32)).run Tryd.prog W = .ok (.string ⟨b.toArray⟩) W ∧ (convert 23 9 (.slice (some ⟨gx, 0, none⟩) 32 32)).run Tryd.prog W = .ok (.string ⟨x.toArray⟩) W) (by kernel_rfl) ?_ (fun hHeld => ?_)
        · exact ⟨CX.out _ hkb.drew, CY.out _ hkx.drew⟩
        refine wpAnyH_take (i := 0) (v := ?_) rfl (by kernel_rfl) (by kernel_rfl) (by kernel_rfl) (fun _ _ _ h => h) (Or.inl ⟨by rfl, ?_⟩) (by assumption) ?_
        rotate_left 1
        · intro w hSw; (try dsimp only at hSw); simp only [List.getElem_toArray, List.getElem_cons_succ, List.getElem_cons_zero]; go_simp; try (with_reducible rfl)
        (try simp only [List.getElem_toArray, List.getElem_cons_succ, List.getElem_cons_zero, Act.put, List.setIfInBounds_toArray, List.set_cons_succ, List.set_cons_zero])
        refine wpAnyH_take (i := 1) (v := .slice (some ⟨gb, 0, none⟩) 32 32) rfl (by kernel_rfl) (by kernel_rfl) (by kernel_rfl) (fun _ _ _ h => h) (Or.inl ⟨by rfl, ?_⟩) (by assumption) ?_
        · intro w hSw; (try dsimp only at hSw); simp only [List.getElem_toArray, List.getElem_cons_succ, List.getElem_cons_zero]; first | (go_simp; done) | (simp [execOp, Act.eval, hsa]; done)
        (try simp only [List.getElem_toArray, List.getElem_cons_succ, List.getElem_cons_zero, Act.put, List.setIfInBounds_toArray, List.set_cons_succ, List.set_cons_zero])
        refine wpAnyH_take (i := 2) (v := .string ⟨b.toArray⟩) rfl (by kernel_rfl) (by kernel_rfl) (by kernel_rfl) (fun _ _ _ h => h) (Or.inl ⟨by rfl, ?_⟩) (by assumption) ?_
        · intro w hSw; (try dsimp only at hSw); simp only [List.getElem_toArray, List.getElem_cons_succ, List.getElem_cons_zero]; have hc := hSw.1; first | (simp [execOp, Act.eval, hc]; done) | (go_simp; done)
        (try simp only [List.getElem_toArray, List.getElem_cons_succ, List.getElem_cons_zero, Act.put, List.setIfInBounds_toArray, List.set_cons_succ, List.set_cons_zero])
        refine wpAnyH_take (i := 3) (v := .slice (some ⟨gx, 0, none⟩) 32 32) rfl (by kernel_rfl) (by kernel_rfl) (by kernel_rfl) (fun _ _ _ h => h) (Or.inl ⟨by rfl, ?_⟩) (by assumption) ?_
        · intro w hSw; (try dsimp only at hSw); simp only [List.getElem_toArray, List.getElem_cons_succ, List.getElem_cons_zero]; first | (go_simp; done) | (simp [execOp, Act.eval, hsa]; done)
        (try simp only [List.getElem_toArray, List.getElem_cons_succ, List.getElem_cons_zero, Act.put, List.setIfInBounds_toArray, List.set_cons_succ, List.set_cons_zero])
        refine wpAnyH_take (i := 4) (v := .string ⟨x.toArray⟩) rfl (by kernel_rfl) (by kernel_rfl) (by kernel_rfl) (fun _ _ _ h => h) (Or.inl ⟨by rfl, ?_⟩) (by assumption) ?_
        · intro w hSw; (try dsimp only at hSw); simp only [List.getElem_toArray, List.getElem_cons_succ, List.getElem_cons_zero]; have hc := hSw.2; first | (simp [execOp, Act.eval, hc]; done) | (go_simp; done)
        (try simp only [List.getElem_toArray, List.getElem_cons_succ, List.getElem_cons_zero, Act.put, List.setIfInBounds_toArray, List.set_cons_succ, List.set_cons_zero])
        refine wpAnyH_take (i := 5) (v := ?_) rfl (by kernel_rfl) (by kernel_rfl) (by kernel_rfl) (fun _ _ _ h => h) (Or.inl ⟨by rfl, ?_⟩) (by assumption) ?_
        rotate_left 1
        · intro w hSw; (try dsimp only at hSw); simp only [List.getElem_toArray, List.getElem_cons_succ, List.getElem_cons_zero]; go_simp; try (with_reducible rfl)
        (try simp only [List.getElem_toArray, List.getElem_cons_succ, List.getElem_cons_zero, Act.put, List.setIfInBounds_toArray, List.set_cons_succ, List.set_cons_zero])
        refine wpAnyH_ready (rs := [6]) (by kernel_rfl) (by simp) ?_
        refine AllReadyH.cons rfl (fun K hK => ?_) AllReadyH.nil
        (try simp only [List.getElem_toArray, List.getElem_cons_succ, List.getElem_cons_zero])
        refine Eq.mpr (if_pos (by first | rfl | simp [Region.wanted, yielded, Act.put])) ?_
        refine wp_bsS _ rfl (b ++ x) (by first | rfl | simp [Act.eval]) ?_
        intro g6 x6 hb6 hg6 hl6 hf6 hB6
        have sz6 : z9.heap.size ≤ x6.heap.size := hf6.size
        have hkb := hkb.drew.stepF hf6
        have hkx := hkx.drew.stepF hf6
        have ho := (ho.up (below_dr (Below.refl _ _))).frm hf6 (fun _ _ h => h)
        have hB := (below_dr hB).trans (hB6.mono (below_dr hB).size)
        refine hK.out _ _ ?_ (fun hHeld => ?_)
        · exact ⟨CX.out _ hkb, CY.out _ hkx⟩
        clear hK K
        (try simp only [Act.put, List.setIfInBounds_toArray, List.set_cons_succ, List.set_cons_zero])
        refine wpAnyH_ready (rs := [7]) (by kernel_rfl) (by simp) ?_
        refine AllReadyH.cons rfl (fun K hK => ?_) AllReadyH.nil
        (try simp only [List.getElem_toArray, List.getElem_cons_succ, List.getElem_cons_zero])
        refine Eq.mpr (if_pos (by first | rfl | simp [Region.wanted, yielded, Act.put])) ?_
        have n10 := ho.ne_blk hkb (by decide)
        have n11 := ho.ne_blk hkx (by decide)
        refine wp_appS (.tmp 42) (.tmp 48) rfl w.heap.size w hB (Nat.le_refl _) (some ⟨q, qo, none⟩) k1 c1 J (by first | rfl | simp [Act.eval]) ho g6 (b ++ x) (by first | rfl | simp [Act.eval]) hb6 (by omega) ?_
        intro A7 c7 x7 ho7 hf7 hB
        have sz7 := hf7.size
        have hkb := hf7.blk hkb (fun h => n10 _ h rfl)
        have hkx := hf7.blk hkx (fun h => n11 _ h rfl)
        refine hK.out _ _ ?_ (fun hHeld => ?_)
        · exact ⟨CX.out _ hkb, CY.out _ hkx⟩
        clear hK K
        (try simp only [Act.put, List.setIfInBounds_toArray, List.set_cons_succ, List.set_cons_zero])
        refine wpAnyH_take (i := 8) (v := ?_) rfl (by kernel_rfl) (by kernel_rfl) (by kernel_rfl) (fun _ _ _ h => h) (Or.inl ⟨by rfl, ?_⟩) (by assumption) ?_
        rotate_left 1
        · intro w hSw; (try dsimp only at hSw); simp only [List.getElem_toArray, List.getElem_cons_succ, List.getElem_cons_zero]; go_simp; try (with_reducible rfl)
        (try simp only [List.getElem_toArray, List.getElem_cons_succ, List.getElem_cons_zero, Act.put, List.setIfInBounds_toArray, List.set_cons_succ, List.set_cons_zero])
        refine wpAnyH_done (by kernel_rfl) ?_ _
        clear hb6 hf6 hB6 hf7 hkb hkx ho
        go_wp2
        go_roundw
        case rel => exact ⟨k1, A7, c7, by rw [HK1.out]; go_num, rfl, by rw [HA'.out], by have := HK1.out; omega, by rw [HNX.out]; exact ho7, hB⟩
        case measure => simp [intOf]; omega
    · have hlt' : ¬ (k : Int) < (m : Int) := by omega
      have e : k = m := by omega
      have em : k1 = m + 1 := by omega
      have HM := Lib.hid em
      have ho' : OwnS wo w.heap.size A1 k1 c1 (clm i t P) := by
        rw [List.take_of_length_le (by rw [HLC.out]; omega)] at ho
        exact ho
      have HO := Lib.hid ho'
      clear ha hk1 ho ho' em e
      go_wp2
      go_ret
      exact ⟨A1, c1, by rw [← HM.out]; rfl, by rw [← HM.out]; exact HO.out, hB⟩
set_option maxRecDepth 100000 in
theorem dclaim_calls (c i : Int) (A : Option Addr) (m cap : Nat) (P : List (List UInt8)) (t : List UInt8) (w : World) (hr : RdH w A m P) (ht : t.length ≤ 100000) :
    Calls Tryd.prog 15 #[STR t, .agg #[.int .i64 c, .int .i64 i, .slice A m cap]] w fun e w' => ∃ A' c', e = .returned (.slice A' (claim c i P t).length c') ∧ OwnS w' w.heap.size A' (claim c i P t).length c' (claim c i P t) ∧ Below w.heap.size w w' := by
  have hln := hr.len
  by_cases h0 : rgt c i m = 0
  · obtain ⟨g1, g2, g3, g4, g5⟩ := rgt_zero h0
    obtain ⟨n, rfl⟩ : ∃ n : Nat, c = (n : Int) := ⟨c.toNat, by omega⟩
    obtain ⟨j, rfl⟩ : ∃ n : Nat, i = (n : Int) := ⟨i.toNat, by omega⟩
    have e : claim (n : Int) (j : Int) P t = clm j t P := by unfold claim; rw [hln, if_neg (by rw [h0]; simp), Int.toNat_natCast]
    rw [e, clm_len, hln]
    exact dclaim_good n j A m cap P t w hr (by rw [g5, Int.toNat_natCast]) (by omega) (by omega) ht
  · have e : claim c i P t = [] := by unfold claim; rw [hln, if_pos h0]
    rw [e]
    refine (dclaim_bad c i A m cap _ t w rfl h0).mono ?_
    rintro e w' ⟨rfl, hb⟩
    exact ⟨none, 0, rfl, OwnS.nil _ _, hb⟩
end Go.Proofs.YtpoinhjkdgcnaaaDoor
