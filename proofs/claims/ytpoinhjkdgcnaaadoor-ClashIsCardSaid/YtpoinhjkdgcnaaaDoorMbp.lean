/- Merged texts: ClbD. -/
import Derived.Test.YtpoinhjkdgcnaaaDoorMbn
import Derived.Test.YtpoinhjkdgcnaaaDoorMbd
import Derived.Test.YtpoinhjkdgcnaaaDoorMaz
/- The contract of package clash's Claim. -/
namespace Go.Proofs.YtpoinhjkdgcnaaaDoor
open Go.RowKit
set_option linter.unusedVariables false
set_option linter.unusedSimpArgs false

set_option maxRecDepth 100000 in
theorem ownT_one {w : World} {g b b2 : Nat} {A : Option Addr} {n c : Nat} {l : List UInt8} (h : Blk w g [.slice A n c] 23) (hg : b ≤ g) (k : Own w b2 A n c l) : OwnT w b (some ⟨g, 0, none⟩) 1 1 [l] :=
  ⟨rfl, [.slice A n c], ⟨rfl, .inr ⟨g, 1, #[.slice A n c], rfl, hg, h, by omega, by unfold maxLen; omega, rfl, rfl⟩⟩, rfl, fun i v hv => by
    have e : i = 0 := by have := (List.getElem?_eq_some_iff.1 hv).1; simp at this; exact this
    subst e
    simp at hv
    exact ⟨A, n, c, hv.symm, own_txt k⟩⟩
set_option maxRecDepth 100000 in
set_option maxHeartbeats 4000000 in
theorem gclaim_bad (c i : Int) (A : Option Addr) (m cap E k cT : Nat) (AT : Option Addr) (w : World) (hE : rgt c i m = E) (h0 : ¬ E = 0) : Calls Tryd.prog 14 #[.slice AT k cT, .agg #[.int .i64 c, .int .i64 i, .slice A m cap]] w (Ret w (.slice none 0 0)) := by
  have CR : Hid (∀ W, Calls Tryd.prog 31 #[.agg #[.int .i64 c, .int .i64 i, .slice A m cap]] W (Ret W (.int .i64 (E : Int)))) := Lib.hid fun W => by rw [← hE]; exact bright_calls c i A m cap W
  have h1 : ¬ (E : Int) = 0 := by omega
  clear hE
  obtain ⟨w0, hw0⟩ : ∃ x, x = w.alloc (.cells #[.int .i64 c, .int .i64 i, .slice A m cap] 26) := ⟨_, rfl⟩
  have hB0 : Below w.heap.size w w0 := by rw [hw0]; exact below_al (Below.refl _ _) _
  have hk0 : Blk w0 w.heap.size [.int .i64 c, .int .i64 i, .slice A m cap] 26 := by rw [hw0]; exact Blk.new w _ _
  have hw1 : w.alloc (.cells #[.int .i64 c, .int .i64 i, .slice A m cap] 26) = w0 := hw0.symm
  clear hw0
  go_enter Tryd.func14, Tryd.ntmps14
  go_upto_region 1 with fail
  try rw [hw1]
  clear hw1
  go_wp2_with (first
    | ((with_reducible refine at_load 26 (.tmp 3) ?_); refine wpList_load_mid rfl 26 (.tmp 3) rfl (w.heap.size) (0) (by first | rfl | (simp [Act.eval]; done)) [.int .i64 c, .int .i64 i, .slice A m cap] _ (Blk.range hk0) Tryd.underlying26 rfl (by kernel_rfl) ?_)
    | (go_at_call 31; refine (CR.out _).mono ?_; rintro e' x1 ⟨rfl, d1⟩))
  go_ret
  exact ⟨rfl, below_more hB0 d1⟩
set_option maxRecDepth 100000 in
set_option maxHeartbeats 4000000 in
theorem gclaim_good (n i : Nat) (A : Option Addr) (m cap : Nat) (P : List (List UInt8)) (AT : Option Addr) (kT cT : Nat) (t : List UInt8) (w : World) (hr : RdH w A m P) (hrt : Rd w AT kT t) (hkc : kT ≤ cT) (hct : cT ≤ maxLen) (hT : Tab w) (hm : m = depth n) (hi : i < n) (hn : n ≤ 65536) (ht : t.length ≤ 100000) :
    Calls Tryd.prog 14 #[.slice AT kT cT, .agg #[.int .i64 (n : Int), .int .i64 (i : Int), .slice A m cap]] w fun e w' => ∃ A' c', e = .returned (.slice A' (m + 1) c') ∧ OwnT w' w.heap.size A' (m + 1) c' (clm i t P) ∧ Below w.heap.size w w' := by
  have hm16 : m ≤ 16 := by rw [hm]; exact depth_16 n hn
  have hrg : rgt (n : Int) (i : Int) m = 0 := by unfold rgt; rw [if_neg (by omega), if_neg (by rw [hm, Int.toNat_natCast]; simp)]
  have CR : Hid (∀ W, Calls Tryd.prog 31 #[.agg #[.int .i64 (n : Int), .int .i64 (i : Int), .slice A m cap]] W (Ret W (.int .i64 0))) := Lib.hid fun W => by have := bright_calls (n : Int) (i : Int) A m cap W; rw [hrg] at this; exact this
  have hln := hr.len
  have HR := Lib.hid hr
  have HT := Lib.hid hT
  have CJ0 : Hid (∀ (W : World) (g : Nat), Blk W g [.slice AT kT cT] 23 → Below w.heap.size w W → Calls Tryd.prog 25 #[.slice (some ⟨g, 0, none⟩) 1 1] W (Mk W t)) := Lib.hid fun W g k1 k2 => join_one W g AT kT cT t k1 (hrt.below k2) hkc hct ht
  have HSM : Hid (∀ k, k < m + 1 → (hat (clm i t P) k).length ≤ 100000) := Lib.hid fun k hk => clm_small P i t hr.all ht k (by omega)
  have HAT : Hid (∀ k, k < m → hat (clm i t P) (k + 1) = cp (ix i k) (ds (hat (clm i t P) k)) (hat P k)) := Lib.hid fun k hk => clm_at P i t k (by omega)
  have HLC : Hid ((clm i t P).length = m + 1) := Lib.hid (by rw [clm_len, hln])
  have HIL := Lib.hid (fun k => ix_down i k)
  have hi6 : i ≤ 65536 := by omega
  have H0 : Hid ((clm i t P).take 1 = [t] ∧ hat (clm i t P) 0 = t) := Lib.hid ⟨by cases P <;> rfl, by cases P <;> rfl⟩
  have hsa : ∀ (q o : Nat) W, (Instr.sliceAt 47 (.pointer (some ⟨q, o, none⟩)) none none none).run Tryd.prog W = .ok (.slice (some ⟨q, o, none⟩) 32 32) W := fun q o W => run_sl_all 47 5 32 Tryd.underlying47 size8 q o (by omega) W
  clear hrg hr hm ht hrt hkc hct hT
  obtain ⟨w0, hw0⟩ : ∃ x, x = w.alloc (.cells #[.int .i64 (n : Int), .int .i64 (i : Int), .slice A m cap] 26) := ⟨_, rfl⟩
  have hs0 : w0.heap.size = w.heap.size + 1 := by rw [hw0]; simp
  have hB0 : Below w.heap.size w w0 := by rw [hw0]; exact below_al (Below.refl _ _) _
  have hk0 : Blk w0 w.heap.size [.int .i64 (n : Int), .int .i64 (i : Int), .slice A m cap] 26 := by rw [hw0]; exact Blk.new w _ _
  have hw1 : w.alloc (.cells #[.int .i64 (n : Int), .int .i64 (i : Int), .slice A m cap] 26) = w0 := hw0.symm
  clear hw0
  go_enter Tryd.func14, Tryd.ntmps14
  go_upto_region 1 with fail
  try rw [hw1]
  clear hw1
  go_upto_region 5 with (first
    | ((with_reducible refine at_load 26 (.tmp 3) ?_); refine wpList_load_mid rfl 26 (.tmp 3) rfl (w.heap.size) (0) (by first | rfl | (simp [Act.eval]; done)) [.int .i64 (n : Int), .int .i64 (i : Int), .slice A m cap] _ (Blk.range hk0) Tryd.underlying26 rfl (by kernel_rfl) ?_)
    | (go_at_call 31; refine (CR.out _).mono ?_; rintro e' x1 ⟨rfl, d1⟩; have hbk := hk0.up d1; have hB := below_more hB0 d1; have hsz := d1.size)
    | ((with_reducible refine at_bsP 22 1 #[(0, .tmp 14)] ?_); refine wpList_bsV rfl (.tmp 14) rfl AT kT cT (by first | rfl | (simp [Act.eval]; done)) ?_; intro g1 x2 hb1 hg1 hl1 hB1; have hbk := hbk.up hB1; have hB := below_more hB hB1)
    | (go_at_call 25; refine (CJ0.out _ g1 hb1 hB).mono ?_; rintro e' x3 ⟨A5, n5, c5, rfl, ho5, hB5⟩; have hbk := hbk.up hB5; have hB := below_more hB hB5; have hs5 := hB5.size)
    | ((with_reducible refine at_bsP 22 1 #[(0, .tmp 17)] ?_); refine wpList_bsV rfl (.tmp 17) rfl A5 n5 c5 (by first | rfl | (simp [Act.eval]; done)) ?_; intro g2 x4 hb2 hg2 hl2 hB2; have hbk := hbk.up hB2; have ho5 := ho5.up hB2; have hB := below_more hB hB2))
  have s1 : x4.cell? ⟨w.heap.size, 1, none⟩ = some (.int .i64 (i : Int)) := hbk.cell 1
  have s2 : x4.cell? ⟨w.heap.size, 2, none⟩ = some (.slice A m cap) := hbk.cell 2
  have hown0 : OwnT x4 w.heap.size (some ⟨g2, 0, none⟩) 1 1 ((clm i t P).take 1) := by
    rw [H0.out.1]
    exact ownT_one hb2 (by omega) ho5
  have hlast0 : Own x4 0 A5 n5 c5 (hat (clm i t P) 0) := by rw [H0.out.2]; exact own_txt ho5
  clear hb1 hb2 hB1 hB5 hB2 hk0 ho5 hB0 hg1 hg2 hl1 hl2 hbk
  go_wp2
  go_loopw [24, 5, 6, 7] (fun kv lv ov av wr => ∃ (k : Nat) (Al : Option Addr) (nl cl : Nat) (A1 : Option Addr) (c1 : Nat), kv = .int .i64 (k : Int) ∧ lv = .slice Al nl cl ∧ ov = .slice A1 (k + 1) c1 ∧ av = .int .i64 ((ix i k : Nat) : Int) ∧ k ≤ m ∧ Own wr 0 Al nl cl (hat (clm i t P) k) ∧ OwnT wr w.heap.size A1 (k + 1) c1 ((clm i t P).take (k + 1)) ∧ Below w.heap.size w wr) (fun kv _ _ _ _ => m - (intOf kv).toNat)
  case atStart => exact ⟨0, A5, n5, c5, _, 1, by first | rfl | go_num, rfl, rfl, rfl, by omega, hlast0, hown0, hB⟩
  case round =>
    obtain ⟨k, Al, nl, cl, A1, c1, rfl, rfl, rfl, rfl, hkm, hl, ho, hBr⟩ := hrel
    obtain ⟨wo, hwo⟩ : ∃ x, x = wr := ⟨_, rfl⟩
    rw [← hwo] at hl ho hBr ⊢
    clear hwo hown0 hlast0 hB s1 s2
    have hB := hBr
    obtain ⟨k1, hk1⟩ : ∃ x, x = k + 1 := ⟨_, rfl⟩
    obtain ⟨a, ha⟩ : ∃ x, x = ix i k := ⟨_, rfl⟩
    rw [← hk1] at ho ⊢
    rw [← ha]
    by_cases hlt : k < m
    · have hlt' : (k : Int) < (m : Int) := by omega
      obtain ⟨y, hy⟩ : ∃ y, y = hat (clm i t P) k := ⟨_, rfl⟩
      have y1 : y.length ≤ 100000 := by rw [hy]; exact HSM.out k (by omega)
      rw [← hy] at hl
      obtain ⟨x, hx⟩ : ∃ z0, z0 = ds y := ⟨_, rfl⟩
      have x32 : x.length = 32 := by rw [hx]; exact ds_len _
      obtain ⟨X, hhX⟩ : ∃ V, V = x.map B8 := ⟨_, rfl⟩
      have HX := Lib.hid hhX
      have HX32 := Lib.hid x32
      have IX : Hid ((Tryd.prog.info? 47).map (·.size) = some X.length) := Lib.hid (by rw [hhX, List.length_map, x32]; kernel_rfl)
      have LX : Hid (z32.length = X.length) := Lib.hid (by rw [hhX, List.length_map, x32]; rfl)
      have OX : Hid (∀ v ∈ X, v.oneCell' = true) := Lib.hid (by rw [hhX]; exact b8_one _)
      obtain ⟨b, hb⟩ : ∃ z0, z0 = hat P k := ⟨_, rfl⟩
      have b32 : b.length = 32 := by rw [hb]; exact hat_32 HR.out.all (by omega)
      obtain ⟨B, hhB⟩ : ∃ V, V = b.map B8 := ⟨_, rfl⟩
      have HB := Lib.hid hhB
      have HB32 := Lib.hid b32
      have IB : Hid ((Tryd.prog.info? 47).map (·.size) = some B.length) := Lib.hid (by rw [hhB, List.length_map, b32]; kernel_rfl)
      have LB : Hid (z32.length = B.length) := Lib.hid (by rw [hhB, List.length_map, b32]; rfl)
      have OB : Hid (∀ v ∈ B, v.oneCell' = true) := Lib.hid (by rw [hhB]; exact b8_one _)
      obtain ⟨zz, hzz⟩ : ∃ z, z = cp a x b := ⟨_, rfl⟩
      have hnx : (clm i t P).take (k1 + 1) = (clm i t P).take k1 ++ [zz] := by
        rw [take_hat _ k1 (by rw [HLC.out]; omega), hk1, HAT.out k hlt, ← ha, ← hy, ← hx, ← hb, hzz]
      have HZ : Hid (hat (clm i t P) k1 = zz) := Lib.hid (by rw [hk1, HAT.out k hlt, ← ha, ← hy, ← hx, ← hb, hzz])
      obtain ⟨J, hJ⟩ : ∃ J, J = (clm i t P).take k1 := ⟨_, rfl⟩
      rw [← hJ] at ho hnx
      have HNX := Lib.hid hnx
      obtain ⟨a', ha'⟩ : ∃ x, x = a / 2 := ⟨_, rfl⟩
      have HA' : Hid (ix i k1 = a') := Lib.hid (by rw [ha', ha, hk1]; rfl)
      have HK1 : Hid (k1 = k + 1) := Lib.hid hk1
      have hlc := own_cap hl
      have CT : Hid (∀ (W : World) (g : Nat), Blk W g [.slice Al nl cl] 23 → Own W 0 Al nl cl y → Below w.heap.size w W → Calls Tryd.prog 19 #[.slice (some ⟨g, 0, none⟩) 1 1] W (Ret W (.agg X.toArray))) := Lib.hid fun W g k1 k2 k3 => by
        rw [hhX, hx]
        exact twice_blk W g Al nl cl y k1 k2.rd hlc.1 hlc.2 y1 (HT.out.all k3)
      have ha6 : a ≤ 65536 := by rw [ha]; have := HIL.out k; omega
      have q1 : Int.tdiv (a : Int) 2 = (a' : Int) := by rw [Int.tdiv_eq_ediv_of_nonneg (by omega)]; omega
      have q2 : (a : Int) / 2 = (a' : Int) := by omega
      have q3 : IntKind.i64.wrap (a' : Int) = (a' : Int) := by rw [IntKind.wrap_i64]; omega
      have hk16 : k1 ≤ 17 := by omega
      obtain ⟨bb, off, rfl, hbl, hga⟩ := (HR.out.below hB).at_ hlt
      rw [← hb, ← hhB] at hga
      have szB := hB.size
      clear hy hx hhX x32 hb hhB b32 hJ ha ha' hk1 y1 hnx hBr hlc
      go_upto_region 9 with (first
        | ((with_reducible refine at_load 47 (.tmp 26) ?_); refine wpList_load_mid rfl 47 (.tmp 26) rfl (bb) (off + k * 32) (by first | rfl | (simp [Act.eval]; done)) B _ (hga) Tryd.underlying47 rfl IB.out ?_)
        | ((with_reducible refine at_alloc 47 ?_); refine wpList_allocT rfl 47 z32 (by kernel_rfl) rfl w.heap.size w hB (Nat.le_refl _) ?_; intro gb z8 hkb hgz8 hlz8 hfz8 hB; have ho := ho.frm hfz8 (fun _ h => h.elim) (fun _ h => h.elim); have hl := hl.frmN hfz8 (fun _ h => h.elim))
        | ((with_reducible refine at_store 47 (.tmp 9) (.tmp 27) ?_); refine wpList_store_blk rfl 47 (.tmp 9) (.tmp 27) rfl gb z32 B 47 rfl rfl hkb LB.out IB.out OB.out ?_; intro s8 nks8 hos8; have ho := ho.only hkb (by decide) (by decide) hos8; have hl := hl.only hkb (by decide) hos8; have hB := hB.trans (hos8.below (by omega)); have szs8 := hos8.size; have hkb := nks8))
      clear hga
      go_upto_region 10 with (first
        | ((with_reducible refine at_bsP 22 1 #[(0, .tmp 28)] ?_); refine wpList_bsV rfl (.tmp 28) rfl Al nl cl (by first | rfl | (simp [Act.eval]; done)) ?_; intro g9 y8 hb9 hg9 hl9 hB9; have ho := ho.up hB9; have hl := hl.up hB9; have hkb := hkb.up hB9; have hB := below_more hB hB9)
        | (go_at_call 19; refine (CT.out _ g9 hb9 hl hB).mono ?_; rintro e' y9 ⟨rfl, e9⟩; have ho := ho.up e9; have hl := hl.up e9; have hB := below_more hB e9; have hkb := hkb.up e9; have sz9 := e9.size)
        | ((with_reducible refine at_alloc 47 ?_); refine wpList_allocT rfl 47 z32 (by kernel_rfl) rfl w.heap.size w hB (Nat.le_refl _) ?_; intro gx z9 hkx hgz9 hlz9 hfz9 hB; have ho := ho.frm hfz9 (fun _ h => h.elim) (fun _ h => h.elim); have hl := hl.frmN hfz9 (fun _ h => h.elim); have hkb := hkb.stepF hfz9)
        | ((with_reducible refine at_store 47 (.tmp 10) (.tmp 30) ?_); refine wpList_store_blk rfl 47 (.tmp 10) (.tmp 30) rfl gx z32 X 47 rfl rfl hkx LX.out IX.out OX.out ?_; intro t9 nkt9 hot9; have ho := ho.only hkx (by decide) (by decide) hot9; have hl := hl.only hkx (by decide) hot9; have hB := hB.trans (hot9.below (by omega)); have szt9 := hot9.size; have hkx := nkt9; have hkb := hot9.blk hkb (by omega)))
      clear hl hb9 hB9 e9 nks8 nkt9 hfz8 hfz9 hos8 hot9
      by_cases hev : a % 2 = 0
      · skip
        have r1 : Int.tmod (a : Int) 2 = 0 := by rw [Int.tmod_eq_emod_of_nonneg (by omega)]; omega
        have r2 : (a : Int) % 2 = 0 := by omega
        have r3 : IntKind.i64.wrap 0 = 0 := by rw [IntKind.wrap_i64]; omega
        have HZE : Hid (x ++ b = zz) := Lib.hid (by rw [hzz]; unfold cp; rw [if_pos hev])
        clear hev hzz
        go_upto_region 11 with fail
        have hRa := hash_rd hkx HX.out HX32.out
        have hRb := hash_rd hkb HB.out HB32.out
        have la := HX32.out
        have lb := HB32.out
        refine wp_region_held_drew (S := fun _ => True) (by kernel_rfl) ?_ (fun hHeld => ?_)
        · trivial
        refine wpAnyH_take (i := 0) (v := .slice (some ⟨gx, 0, none⟩) 32 32) rfl (by kernel_rfl) (by kernel_rfl) (by kernel_rfl) (fun _ _ _ h => h) (Or.inl ⟨by rfl, ?_⟩) (by assumption) ?_
        · intro w hSw; (try dsimp only at hSw); simp only [List.getElem_toArray, List.getElem_cons_succ, List.getElem_cons_zero]; first | (go_simp; done) | (simp [execOp, Act.eval, hsa]; done)
        (try simp only [List.getElem_toArray, List.getElem_cons_succ, List.getElem_cons_zero, Act.put, List.setIfInBounds_toArray, List.set_cons_succ, List.set_cons_zero])
        refine wpAnyH_take (i := 1) (v := .slice (some ⟨gb, 0, none⟩) 32 32) rfl (by kernel_rfl) (by kernel_rfl) (by kernel_rfl) (fun _ _ _ h => h) (Or.inl ⟨by rfl, ?_⟩) (by assumption) ?_
        · intro w hSw; (try dsimp only at hSw); simp only [List.getElem_toArray, List.getElem_cons_succ, List.getElem_cons_zero]; first | (go_simp; done) | (simp [execOp, Act.eval, hsa]; done)
        (try simp only [List.getElem_toArray, List.getElem_cons_succ, List.getElem_cons_zero, Act.put, List.setIfInBounds_toArray, List.set_cons_succ, List.set_cons_zero])
        refine wpAnyH_ready (rs := [2]) (by kernel_rfl) (by simp) ?_
        refine AllReadyH.cons rfl (fun K hK => ?_) AllReadyH.nil
        (try simp only [List.getElem_toArray, List.getElem_cons_succ, List.getElem_cons_zero])
        refine Eq.mpr (if_pos (by first | rfl | simp [Region.wanted, yielded, Act.put])) ?_
        refine wp_bsV2 _ _ rfl (some ⟨gx, 0, none⟩) (some ⟨gb, 0, none⟩) 32 32 32 32 (by first | rfl | (simp [Act.eval]; done)) (by first | rfl | (simp [Act.eval]; done)) ?_
        intro g6 x6 hb6 hg6 hl6 hB6
        have ho := (ho.up (below_dr (Below.refl _ _))).up hB6
        have hB := below_more (below_dr hB) hB6
        have hRa := hRa.drew.below hB6
        have hRb := hRb.drew.below hB6
        refine hK.out _ _ ?_ (fun hHeld => ?_)
        · trivial
        clear hK K
        (try simp only [Act.put, List.setIfInBounds_toArray, List.set_cons_succ, List.set_cons_zero])
        refine wpAnyH_ready (rs := [3]) (by kernel_rfl) (by simp) ?_
        refine AllReadyH.cons rfl (fun K hK => ?_) AllReadyH.nil
        (try simp only [List.getElem_toArray, List.getElem_cons_succ, List.getElem_cons_zero])
        go_simp
        go_at_call 25; refine (join_two _ g6 _ _ 32 32 32 32 x b hb6 hRa (by omega) (by unfold maxLen; omega) hRb (by omega) (by unfold maxLen; omega) (by omega)).mono ?_; rintro e' x7 ⟨A7, n7, c7, rfl, ho7, hB7⟩
        (try (go_wp2_with fail))
        refine hK.out _ _ ?_ (fun hHeld => ?_)
        · trivial
        clear hK K
        (try simp only [Act.put, List.setIfInBounds_toArray, List.set_cons_succ, List.set_cons_zero])
        have ho := ho.up hB7
        have hB := below_more hB hB7
        rw [HZE.out] at ho7
        refine wpAnyH_take (i := 4) (v := ?_) rfl (by kernel_rfl) (by kernel_rfl) (by kernel_rfl) (fun _ _ _ h => h) (Or.inl ⟨by rfl, ?_⟩) (by assumption) ?_
        rotate_left 1
        · intro w hSw; (try dsimp only at hSw); simp only [List.getElem_toArray, List.getElem_cons_succ, List.getElem_cons_zero]; go_simp; try (with_reducible rfl)
        (try simp only [List.getElem_toArray, List.getElem_cons_succ, List.getElem_cons_zero, Act.put, List.setIfInBounds_toArray, List.set_cons_succ, List.set_cons_zero])
        refine wpAnyH_done (by kernel_rfl) ?_ _
        have ho := ho
        clear hb6 hB6 hB7 hkb hkx
        go_wp2_with (first
          | ((with_reducible refine at_bsP 22 1 #[(0, .tmp 43)] ?_); refine wpList_bsV rfl (.tmp 43) rfl A7 n7 c7 (by first | rfl | (simp [Act.eval]; done)) ?_; intro g8 x8 hb8 hg8 hl8 hB8; have ho := ho.up hB8; have ho7 := ho7.up hB8; have hB := below_more hB hB8)
          | ((with_reducible refine at_app 22 (.tmp 42) (.tmp 44) ?_); refine wpList_appT rfl (.tmp 42) (.tmp 44) rfl w.heap.size w hB (Nat.le_refl _) A1 k1 c1 J (by first | rfl | (simp [Act.eval]; done)) ho (some ⟨g8, 0, none⟩) 1 1 [zz] (by first | rfl | (simp [Act.eval]; done)) (srcT_one hb8 ho7) (by omega) ?_; intro A9 c9 x9 ho9 hf9 hB9; have ho7 := ho7.appT ho hf9))
        go_roundw
        case rel => exact ⟨k1, A7, n7, c7, A9, c9, by rw [HK1.out]; go_num, rfl, rfl, by rw [HA'.out], by have := HK1.out; omega, by rw [HZ.out]; exact own_txt ho7, by rw [HNX.out]; exact ho9, hB9⟩
        case measure => simp [intOf]; omega
      · skip
        have r1 : Int.tmod (a : Int) 2 = 1 := by rw [Int.tmod_eq_emod_of_nonneg (by omega)]; omega
        have r2 : (a : Int) % 2 = 1 := by omega
        have r3 : IntKind.i64.wrap 1 = 1 := by rw [IntKind.wrap_i64]; omega
        have HZE : Hid (b ++ x = zz) := Lib.hid (by rw [hzz]; unfold cp; rw [if_neg hev])
        clear hev hzz
        go_upto_region 12 with fail
        have hRa := hash_rd hkb HB.out HB32.out
        have hRb := hash_rd hkx HX.out HX32.out
        have la := HB32.out
        have lb := HX32.out
        refine wp_region_held_drew (S := fun _ => True) (by kernel_rfl) ?_ (fun hHeld => ?_)
        · trivial
        refine wpAnyH_take (i := 0) (v := .slice (some ⟨gb, 0, none⟩) 32 32) rfl (by kernel_rfl) (by kernel_rfl) (by kernel_rfl) (fun _ _ _ h => h) (Or.inl ⟨by rfl, ?_⟩) (by assumption) ?_
        · intro w hSw; (try dsimp only at hSw); simp only [List.getElem_toArray, List.getElem_cons_succ, List.getElem_cons_zero]; first | (go_simp; done) | (simp [execOp, Act.eval, hsa]; done)
        (try simp only [List.getElem_toArray, List.getElem_cons_succ, List.getElem_cons_zero, Act.put, List.setIfInBounds_toArray, List.set_cons_succ, List.set_cons_zero])
        refine wpAnyH_take (i := 1) (v := .slice (some ⟨gx, 0, none⟩) 32 32) rfl (by kernel_rfl) (by kernel_rfl) (by kernel_rfl) (fun _ _ _ h => h) (Or.inl ⟨by rfl, ?_⟩) (by assumption) ?_
        · intro w hSw; (try dsimp only at hSw); simp only [List.getElem_toArray, List.getElem_cons_succ, List.getElem_cons_zero]; first | (go_simp; done) | (simp [execOp, Act.eval, hsa]; done)
        (try simp only [List.getElem_toArray, List.getElem_cons_succ, List.getElem_cons_zero, Act.put, List.setIfInBounds_toArray, List.set_cons_succ, List.set_cons_zero])
        refine wpAnyH_ready (rs := [2]) (by kernel_rfl) (by simp) ?_
        refine AllReadyH.cons rfl (fun K hK => ?_) AllReadyH.nil
        (try simp only [List.getElem_toArray, List.getElem_cons_succ, List.getElem_cons_zero])
        refine Eq.mpr (if_pos (by first | rfl | simp [Region.wanted, yielded, Act.put])) ?_
        refine wp_bsV2 _ _ rfl (some ⟨gb, 0, none⟩) (some ⟨gx, 0, none⟩) 32 32 32 32 (by first | rfl | (simp [Act.eval]; done)) (by first | rfl | (simp [Act.eval]; done)) ?_
        intro g6 x6 hb6 hg6 hl6 hB6
        have ho := (ho.up (below_dr (Below.refl _ _))).up hB6
        have hB := below_more (below_dr hB) hB6
        have hRa := hRa.drew.below hB6
        have hRb := hRb.drew.below hB6
        refine hK.out _ _ ?_ (fun hHeld => ?_)
        · trivial
        clear hK K
        (try simp only [Act.put, List.setIfInBounds_toArray, List.set_cons_succ, List.set_cons_zero])
        refine wpAnyH_ready (rs := [3]) (by kernel_rfl) (by simp) ?_
        refine AllReadyH.cons rfl (fun K hK => ?_) AllReadyH.nil
        (try simp only [List.getElem_toArray, List.getElem_cons_succ, List.getElem_cons_zero])
        go_simp
        go_at_call 25; refine (join_two _ g6 _ _ 32 32 32 32 b x hb6 hRa (by omega) (by unfold maxLen; omega) hRb (by omega) (by unfold maxLen; omega) (by omega)).mono ?_; rintro e' x7 ⟨A7, n7, c7, rfl, ho7, hB7⟩
        (try (go_wp2_with fail))
        refine hK.out _ _ ?_ (fun hHeld => ?_)
        · trivial
        clear hK K
        (try simp only [Act.put, List.setIfInBounds_toArray, List.set_cons_succ, List.set_cons_zero])
        have ho := ho.up hB7
        have hB := below_more hB hB7
        rw [HZE.out] at ho7
        refine wpAnyH_take (i := 4) (v := ?_) rfl (by kernel_rfl) (by kernel_rfl) (by kernel_rfl) (fun _ _ _ h => h) (Or.inl ⟨by rfl, ?_⟩) (by assumption) ?_
        rotate_left 1
        · intro w hSw; (try dsimp only at hSw); simp only [List.getElem_toArray, List.getElem_cons_succ, List.getElem_cons_zero]; go_simp; try (with_reducible rfl)
        (try simp only [List.getElem_toArray, List.getElem_cons_succ, List.getElem_cons_zero, Act.put, List.setIfInBounds_toArray, List.set_cons_succ, List.set_cons_zero])
        refine wpAnyH_done (by kernel_rfl) ?_ _
        have ho := ho
        clear hb6 hB6 hB7 hkb hkx
        go_wp2_with (first
          | ((with_reducible refine at_bsP 22 1 #[(0, .tmp 43)] ?_); refine wpList_bsV rfl (.tmp 43) rfl A7 n7 c7 (by first | rfl | (simp [Act.eval]; done)) ?_; intro g8 x8 hb8 hg8 hl8 hB8; have ho := ho.up hB8; have ho7 := ho7.up hB8; have hB := below_more hB hB8)
          | ((with_reducible refine at_app 22 (.tmp 42) (.tmp 44) ?_); refine wpList_appT rfl (.tmp 42) (.tmp 44) rfl w.heap.size w hB (Nat.le_refl _) A1 k1 c1 J (by first | rfl | (simp [Act.eval]; done)) ho (some ⟨g8, 0, none⟩) 1 1 [zz] (by first | rfl | (simp [Act.eval]; done)) (srcT_one hb8 ho7) (by omega) ?_; intro A9 c9 x9 ho9 hf9 hB9; have ho7 := ho7.appT ho hf9))
        go_roundw
        case rel => exact ⟨k1, A7, n7, c7, A9, c9, by rw [HK1.out]; go_num, rfl, rfl, by rw [HA'.out], by have := HK1.out; omega, by rw [HZ.out]; exact own_txt ho7, by rw [HNX.out]; exact ho9, hB9⟩
        case measure => simp [intOf]; omega
    · have hlt' : ¬ (k : Int) < (m : Int) := by omega
      have e : k = m := by omega
      have em : k1 = m + 1 := by omega
      have HM := Lib.hid em
      have ho' : OwnT wo w.heap.size A1 k1 c1 (clm i t P) := by
        rw [List.take_of_length_le (by rw [HLC.out]; omega)] at ho
        exact ho
      have HO := Lib.hid ho'
      clear ha hk1 ho ho' em e hl
      go_wp2
      go_ret
      exact ⟨A1, c1, by rw [← HM.out]; rfl, by rw [← HM.out]; exact HO.out, hB⟩
set_option maxRecDepth 100000 in
theorem gclaim_calls (c i : Int) (A : Option Addr) (m cap : Nat) (P : List (List UInt8)) (AT : Option Addr) (k cT : Nat) (t : List UInt8) (w : World) (hr : RdH w A m P) (hrt : Rd w AT k t) (hkc : k ≤ cT) (hct : cT ≤ maxLen) (hT : Tab w) (ht : t.length ≤ 100000) :
    Calls Tryd.prog 14 #[.slice AT k cT, .agg #[.int .i64 c, .int .i64 i, .slice A m cap]] w fun e w' => ∃ A' c', e = .returned (.slice A' (claim c i P t).length c') ∧ OwnT w' w.heap.size A' (claim c i P t).length c' (claim c i P t) ∧ Below w.heap.size w w' := by
  have hln := hr.len
  by_cases h0 : rgt c i m = 0
  · obtain ⟨g1, g2, g3, g4, g5⟩ := rgt_zero h0
    obtain ⟨n, rfl⟩ : ∃ n : Nat, c = (n : Int) := ⟨c.toNat, by omega⟩
    obtain ⟨j, rfl⟩ : ∃ n : Nat, i = (n : Int) := ⟨i.toNat, by omega⟩
    have e : claim (n : Int) (j : Int) P t = clm j t P := by unfold claim; rw [hln, if_neg (by rw [h0]; simp), Int.toNat_natCast]
    rw [e, clm_len, hln]
    exact gclaim_good n j A m cap P AT k cT t w hr hrt hkc hct hT (by rw [g5, Int.toNat_natCast]) (by omega) (by omega) ht
  · have e : claim c i P t = [] := by unfold claim; rw [hln, if_pos h0]
    rw [e]
    refine (gclaim_bad c i A m cap _ k cT AT w rfl h0).mono ?_
    rintro e w' ⟨rfl, hb⟩
    exact ⟨none, 0, rfl, OwnT.nil _ _, hb⟩
end Go.Proofs.YtpoinhjkdgcnaaaDoor
