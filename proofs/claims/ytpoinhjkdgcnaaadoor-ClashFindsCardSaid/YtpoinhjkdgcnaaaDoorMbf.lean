/- Merged texts: ClaF. -/
import Derived.Test.YtpoinhjkdgcnaaaDoorMbb
import Derived.Test.YtpoinhjkdgcnaaaDoorMam
import Derived.Deep.RegionHeld3
/- The contracts of layer 10's own same and small. -/
namespace Go.Proofs.YtpoinhjkdgcnaaaDoor
open Go.RowKit
set_option linter.unusedVariables false
set_option linter.unusedSimpArgs false

set_option maxRecDepth 100000 in
set_option maxHeartbeats 4000000 in
theorem same_calls (A : Option Addr) (n c : Nat) (T : List (List UInt8)) (A2 : Option Addr) (m c2 : Nat) (M : List (List UInt8)) (w : World) (hr : RdM w A n T) (hs : RdS w A2 m M) (hn : n ≤ 1000000) (hm : m ≤ 1000000) :
    Calls Tryd.prog 10 #[.slice A n c, .slice A2 m c2] w (Ret w (.bool (decide (T = M)))) := by
  have hln := hr.len
  have hlm := hs.len
  have HR := Lib.hid hr
  have HS := Lib.hid hs
  clear hr hs
  by_cases hnm : n = m
  · obtain ⟨E, hE⟩ : ∃ E, E = decide (T = M) := ⟨_, rfl⟩
    rw [← hE]
    have HF : Hid (∀ i, i < n → hat T i ≠ hat M i → E = false) := Lib.hid fun i hi hne => by rw [hE]; exact decide_eq_false fun e => hne (by rw [e])
    have HY : Hid ((∀ i, i < n → hat T i = hat M i) → E = true) := Lib.hid fun h => by rw [hE]; exact decide_eq_true ((list_same T M (by omega)).2 fun i hi => h i (by omega))
    subst hnm
    clear hE
    go_enter Tryd.func10, Tryd.ntmps10
    go_wp2
    go_loopw [13] (fun kv wr => ∃ (t : Nat), kv = .int .i64 (t : Int) ∧ t ≤ n ∧ (∀ i, i < t → hat T i = hat M i) ∧ Below w.heap.size w wr) (fun kv _ => n - (intOf kv).toNat)
    case atStart => exact ⟨0, by first | rfl | go_num, by omega, fun i hi => absurd hi (by omega), Below.refl _ _⟩
    case round =>
      obtain ⟨t, rfl, htn, hno, hbel⟩ := hrel
      obtain ⟨wo, hwo⟩ : ∃ x, x = wr := ⟨_, rfl⟩
      rw [← hwo] at hbel ⊢
      clear hwo
      have HNO := Lib.hid hno
      clear hno
      by_cases hlt : t < n
      · have hlt' : (t : Int) < (n : Int) := by omega
        obtain ⟨b, off, A3, m3, c3, hl, rfl, sc, h1, h2, hrd⟩ := (HR.out.below hbel).at_ hlt
        obtain ⟨b2, off2, rfl, hb2, sy⟩ := (HS.out.below hbel).at_ hlt
        have hb : b < wo.heap.size := lt_of_cell sc
        obtain ⟨x, hx⟩ : ∃ z0, z0 = T[t] := ⟨_, rfl⟩
        obtain ⟨y, hy⟩ : ∃ z0, z0 = hat M t := ⟨_, rfl⟩
        have hTx : hat T t = x := by rw [hx]; unfold hat; rw [List.getD_eq_getElem?_getD, List.getElem?_eq_getElem hl]; rfl
        rw [← hx] at hrd
        rw [← hy] at sy
        have K6 : Hid (∀ W, Below wo.heap.size wo W → W.cell? ⟨b, off + t, none⟩ = some (.slice A3 m3 c3) ∧ W.cell? ⟨b2, off2 + t, none⟩ = some (.string ⟨y.toArray⟩) ∧ (convert 23 9 (.slice A3 m3 c3)).run Tryd.prog W = .ok (.string ⟨x.toArray⟩) W) := Lib.hid fun W h => ⟨(h.cell (p := ⟨b, off + t, none⟩) hb).trans sc, (h.cell (p := ⟨b2, off2 + t, none⟩) hb2).trans sy, conv8 W A3 m3 c3 x (hrd.below h)⟩
        by_cases hxy : x = y
        · have HN2 : Hid (∀ i, i < t + 1 → hat T i = hat M i) := Lib.hid fun i hi => by
            rcases Nat.lt_or_ge i t with h | h
            · exact HNO.out i h
            · obtain rfl : i = t := by omega
              rw [hTx, hxy, hy]
          subst hxy
          have hsx := True.intro
          clear hx hy hTx hrd sc sy
          go_upto_region 6 with fail
          refine wp_region_held_drew (S := fun W => W.cell? ⟨b, off + t, none⟩ = some (.slice A3 m3 c3) ∧ W.cell? ⟨b2, off2 + t, none⟩ = some (.string ⟨x.toArray⟩) ∧ (convert 23 9 (.slice A3 m3 c3)).run Tryd.prog W = .ok (.string ⟨x.toArray⟩) W) (by kernel_rfl) ?_ (fun hHeld => ?_)
          · exact K6.out _ (below_dr (Below.refl _ _))
          refine wpAnyH_take (i := 0) (v := ?_) rfl (by kernel_rfl) (by kernel_rfl) (by kernel_rfl) (fun _ _ _ h => h) (Or.inl ⟨by rfl, ?_⟩) (by assumption) ?_
          rotate_left 1
          · intro w hSw; (try dsimp only at hSw); simp only [List.getElem_toArray, List.getElem_cons_succ, List.getElem_cons_zero]; go_simp; try (with_reducible rfl)
          (try simp only [List.getElem_toArray, List.getElem_cons_succ, List.getElem_cons_zero, Act.put, List.setIfInBounds_toArray, List.set_cons_succ, List.set_cons_zero])
          refine wpAnyH_take (i := 1) (v := ?_) rfl (by kernel_rfl) (by kernel_rfl) (by kernel_rfl) (fun _ _ _ h => h) (Or.inl ⟨by rfl, ?_⟩) (by assumption) ?_
          rotate_left 1
          · intro w hSw; (try dsimp only at hSw); simp only [List.getElem_toArray, List.getElem_cons_succ, List.getElem_cons_zero]; go_simp; try (with_reducible rfl)
          (try simp only [List.getElem_toArray, List.getElem_cons_succ, List.getElem_cons_zero, Act.put, List.setIfInBounds_toArray, List.set_cons_succ, List.set_cons_zero])
          refine wpAnyH_take (i := 2) (v := ?_) rfl (by kernel_rfl) (by kernel_rfl) (by kernel_rfl) (fun _ _ _ h => h) (Or.inl ⟨by rfl, ?_⟩) (by assumption) ?_
          rotate_left 1
          · intro w hSw; (try dsimp only at hSw); simp only [List.getElem_toArray, List.getElem_cons_succ, List.getElem_cons_zero]; go_simp; try (with_reducible rfl)
          (try simp only [List.getElem_toArray, List.getElem_cons_succ, List.getElem_cons_zero, Act.put, List.setIfInBounds_toArray, List.set_cons_succ, List.set_cons_zero])
          refine wpAnyH_take (i := 3) (v := ?_) rfl (by kernel_rfl) (by kernel_rfl) (by kernel_rfl) (fun _ _ _ h => h) (Or.inl ⟨by rfl, ?_⟩) (by assumption) ?_
          rotate_left 1
          · intro w hSw; (try dsimp only at hSw); simp only [List.getElem_toArray, List.getElem_cons_succ, List.getElem_cons_zero]; go_simp; try (with_reducible rfl)
          (try simp only [List.getElem_toArray, List.getElem_cons_succ, List.getElem_cons_zero, Act.put, List.setIfInBounds_toArray, List.set_cons_succ, List.set_cons_zero])
          refine wpAnyH_take (i := 4) (v := .string ⟨x.toArray⟩) rfl (by kernel_rfl) (by kernel_rfl) (by kernel_rfl) (fun _ _ _ h => h) (Or.inl ⟨by rfl, ?_⟩) (by assumption) ?_
          · intro w hSw; (try dsimp only at hSw); simp only [List.getElem_toArray, List.getElem_cons_succ, List.getElem_cons_zero]; have hc := hSw.2.2; first | (simp [execOp, Act.eval, hc]; done) | (go_simp; done)
          (try simp only [List.getElem_toArray, List.getElem_cons_succ, List.getElem_cons_zero, Act.put, List.setIfInBounds_toArray, List.set_cons_succ, List.set_cons_zero])
          refine wpAnyH_take (i := 5) (v := ?_) rfl (by kernel_rfl) (by kernel_rfl) (by kernel_rfl) (fun _ _ _ h => h) (Or.inl ⟨by rfl, ?_⟩) (by assumption) ?_
          rotate_left 1
          · intro w hSw; (try dsimp only at hSw); simp only [List.getElem_toArray, List.getElem_cons_succ, List.getElem_cons_zero]; go_simp; try (with_reducible rfl)
          (try simp only [List.getElem_toArray, List.getElem_cons_succ, List.getElem_cons_zero, Act.put, List.setIfInBounds_toArray, List.set_cons_succ, List.set_cons_zero])
          refine wpAnyH_take (i := 6) (v := ?_) rfl (by kernel_rfl) (by kernel_rfl) (by kernel_rfl) (fun _ _ _ h => h) (Or.inl ⟨by rfl, ?_⟩) (by assumption) ?_
          rotate_left 1
          · intro w hSw; (try dsimp only at hSw); simp only [List.getElem_toArray, List.getElem_cons_succ, List.getElem_cons_zero]; go_simp; try (with_reducible rfl)
          (try simp only [List.getElem_toArray, List.getElem_cons_succ, List.getElem_cons_zero, Act.put, List.setIfInBounds_toArray, List.set_cons_succ, List.set_cons_zero])
          refine wpAnyH_take (i := 7) (v := ?_) rfl (by kernel_rfl) (by kernel_rfl) (by kernel_rfl) (fun _ _ _ h => h) (Or.inl ⟨by rfl, ?_⟩) (by assumption) ?_
          rotate_left 1
          · intro w hSw; (try dsimp only at hSw); simp only [List.getElem_toArray, List.getElem_cons_succ, List.getElem_cons_zero]; go_simp; try (with_reducible rfl)
          (try simp only [List.getElem_toArray, List.getElem_cons_succ, List.getElem_cons_zero, Act.put, List.setIfInBounds_toArray, List.set_cons_succ, List.set_cons_zero])
          refine wpAnyH_take (i := 8) (v := ?_) rfl (by kernel_rfl) (by kernel_rfl) (by kernel_rfl) (fun _ _ _ h => h) (Or.inl ⟨by rfl, ?_⟩) (by assumption) ?_
          rotate_left 1
          · intro w hSw; (try dsimp only at hSw); simp only [List.getElem_toArray, List.getElem_cons_succ, List.getElem_cons_zero]; go_simp; try (with_reducible rfl)
          (try simp only [List.getElem_toArray, List.getElem_cons_succ, List.getElem_cons_zero, Act.put, List.setIfInBounds_toArray, List.set_cons_succ, List.set_cons_zero])
          refine wpAnyH_take (i := 9) (v := .bool false) rfl (by kernel_rfl) (by kernel_rfl) (by kernel_rfl) (fun _ _ _ h => h) (Or.inl ⟨by rfl, ?_⟩) (by assumption) ?_
          · intro w hSw; (try dsimp only at hSw); simp only [List.getElem_toArray, List.getElem_cons_succ, List.getElem_cons_zero]; first | (go_simp; done) | (simp [execOp, Act.eval, hsx]; done) | (go_simp; simp [hsx]; done) | (go_simp; exact hsx)
          (try simp only [List.getElem_toArray, List.getElem_cons_succ, List.getElem_cons_zero, Act.put, List.setIfInBounds_toArray, List.set_cons_succ, List.set_cons_zero])
          refine wpAnyH_done (by kernel_rfl) ?_ _
          go_wp2
          go_roundw
          case rel => exact ⟨t + 1, by go_num, by omega, HN2.out, below_dr hbel⟩
          case measure => simp [intOf]; omega
        · have hsx : ¬ x = y := hxy
          have HE := Lib.hid (HF.out t hlt (by rw [hTx, ← hy]; exact hxy))
          clear hx hy hTx hrd sc sy hxy
          go_upto_region 6 with fail
          refine wp_region_held_drew (S := fun W => W.cell? ⟨b, off + t, none⟩ = some (.slice A3 m3 c3) ∧ W.cell? ⟨b2, off2 + t, none⟩ = some (.string ⟨y.toArray⟩) ∧ (convert 23 9 (.slice A3 m3 c3)).run Tryd.prog W = .ok (.string ⟨x.toArray⟩) W) (by kernel_rfl) ?_ (fun hHeld => ?_)
          · exact K6.out _ (below_dr (Below.refl _ _))
          refine wpAnyH_take (i := 0) (v := ?_) rfl (by kernel_rfl) (by kernel_rfl) (by kernel_rfl) (fun _ _ _ h => h) (Or.inl ⟨by rfl, ?_⟩) (by assumption) ?_
          rotate_left 1
          · intro w hSw; (try dsimp only at hSw); simp only [List.getElem_toArray, List.getElem_cons_succ, List.getElem_cons_zero]; go_simp; try (with_reducible rfl)
          (try simp only [List.getElem_toArray, List.getElem_cons_succ, List.getElem_cons_zero, Act.put, List.setIfInBounds_toArray, List.set_cons_succ, List.set_cons_zero])
          refine wpAnyH_take (i := 1) (v := ?_) rfl (by kernel_rfl) (by kernel_rfl) (by kernel_rfl) (fun _ _ _ h => h) (Or.inl ⟨by rfl, ?_⟩) (by assumption) ?_
          rotate_left 1
          · intro w hSw; (try dsimp only at hSw); simp only [List.getElem_toArray, List.getElem_cons_succ, List.getElem_cons_zero]; go_simp; try (with_reducible rfl)
          (try simp only [List.getElem_toArray, List.getElem_cons_succ, List.getElem_cons_zero, Act.put, List.setIfInBounds_toArray, List.set_cons_succ, List.set_cons_zero])
          refine wpAnyH_take (i := 2) (v := ?_) rfl (by kernel_rfl) (by kernel_rfl) (by kernel_rfl) (fun _ _ _ h => h) (Or.inl ⟨by rfl, ?_⟩) (by assumption) ?_
          rotate_left 1
          · intro w hSw; (try dsimp only at hSw); simp only [List.getElem_toArray, List.getElem_cons_succ, List.getElem_cons_zero]; go_simp; try (with_reducible rfl)
          (try simp only [List.getElem_toArray, List.getElem_cons_succ, List.getElem_cons_zero, Act.put, List.setIfInBounds_toArray, List.set_cons_succ, List.set_cons_zero])
          refine wpAnyH_take (i := 3) (v := ?_) rfl (by kernel_rfl) (by kernel_rfl) (by kernel_rfl) (fun _ _ _ h => h) (Or.inl ⟨by rfl, ?_⟩) (by assumption) ?_
          rotate_left 1
          · intro w hSw; (try dsimp only at hSw); simp only [List.getElem_toArray, List.getElem_cons_succ, List.getElem_cons_zero]; go_simp; try (with_reducible rfl)
          (try simp only [List.getElem_toArray, List.getElem_cons_succ, List.getElem_cons_zero, Act.put, List.setIfInBounds_toArray, List.set_cons_succ, List.set_cons_zero])
          refine wpAnyH_take (i := 4) (v := .string ⟨x.toArray⟩) rfl (by kernel_rfl) (by kernel_rfl) (by kernel_rfl) (fun _ _ _ h => h) (Or.inl ⟨by rfl, ?_⟩) (by assumption) ?_
          · intro w hSw; (try dsimp only at hSw); simp only [List.getElem_toArray, List.getElem_cons_succ, List.getElem_cons_zero]; have hc := hSw.2.2; first | (simp [execOp, Act.eval, hc]; done) | (go_simp; done)
          (try simp only [List.getElem_toArray, List.getElem_cons_succ, List.getElem_cons_zero, Act.put, List.setIfInBounds_toArray, List.set_cons_succ, List.set_cons_zero])
          refine wpAnyH_take (i := 5) (v := ?_) rfl (by kernel_rfl) (by kernel_rfl) (by kernel_rfl) (fun _ _ _ h => h) (Or.inl ⟨by rfl, ?_⟩) (by assumption) ?_
          rotate_left 1
          · intro w hSw; (try dsimp only at hSw); simp only [List.getElem_toArray, List.getElem_cons_succ, List.getElem_cons_zero]; go_simp; try (with_reducible rfl)
          (try simp only [List.getElem_toArray, List.getElem_cons_succ, List.getElem_cons_zero, Act.put, List.setIfInBounds_toArray, List.set_cons_succ, List.set_cons_zero])
          refine wpAnyH_take (i := 6) (v := ?_) rfl (by kernel_rfl) (by kernel_rfl) (by kernel_rfl) (fun _ _ _ h => h) (Or.inl ⟨by rfl, ?_⟩) (by assumption) ?_
          rotate_left 1
          · intro w hSw; (try dsimp only at hSw); simp only [List.getElem_toArray, List.getElem_cons_succ, List.getElem_cons_zero]; go_simp; try (with_reducible rfl)
          (try simp only [List.getElem_toArray, List.getElem_cons_succ, List.getElem_cons_zero, Act.put, List.setIfInBounds_toArray, List.set_cons_succ, List.set_cons_zero])
          refine wpAnyH_take (i := 7) (v := ?_) rfl (by kernel_rfl) (by kernel_rfl) (by kernel_rfl) (fun _ _ _ h => h) (Or.inl ⟨by rfl, ?_⟩) (by assumption) ?_
          rotate_left 1
          · intro w hSw; (try dsimp only at hSw); simp only [List.getElem_toArray, List.getElem_cons_succ, List.getElem_cons_zero]; go_simp; try (with_reducible rfl)
          (try simp only [List.getElem_toArray, List.getElem_cons_succ, List.getElem_cons_zero, Act.put, List.setIfInBounds_toArray, List.set_cons_succ, List.set_cons_zero])
          refine wpAnyH_take (i := 8) (v := ?_) rfl (by kernel_rfl) (by kernel_rfl) (by kernel_rfl) (fun _ _ _ h => h) (Or.inl ⟨by rfl, ?_⟩) (by assumption) ?_
          rotate_left 1
          · intro w hSw; (try dsimp only at hSw); simp only [List.getElem_toArray, List.getElem_cons_succ, List.getElem_cons_zero]; go_simp; try (with_reducible rfl)
          (try simp only [List.getElem_toArray, List.getElem_cons_succ, List.getElem_cons_zero, Act.put, List.setIfInBounds_toArray, List.set_cons_succ, List.set_cons_zero])
          refine wpAnyH_take (i := 9) (v := .bool true) rfl (by kernel_rfl) (by kernel_rfl) (by kernel_rfl) (fun _ _ _ h => h) (Or.inl ⟨by rfl, ?_⟩) (by assumption) ?_
          · intro w hSw; (try dsimp only at hSw); simp only [List.getElem_toArray, List.getElem_cons_succ, List.getElem_cons_zero]; first | (go_simp; done) | (simp [execOp, Act.eval, hsx]; done) | (go_simp; simp [hsx]; done) | (go_simp; exact hsx)
          (try simp only [List.getElem_toArray, List.getElem_cons_succ, List.getElem_cons_zero, Act.put, List.setIfInBounds_toArray, List.set_cons_succ, List.set_cons_zero])
          refine wpAnyH_done (by kernel_rfl) ?_ _
          go_wp2
          go_ret
          exact ⟨by rw [HE.out]; rfl, below_dr hbel⟩
      · have hlt' : ¬ (t : Int) < (n : Int) := by omega
        have HE := Lib.hid (HY.out fun i hi => HNO.out i (by omega))
        go_wp2
        go_ret
        exact ⟨by rw [HE.out]; rfl, hbel⟩
  · rw [decide_eq_false fun e => hnm (by rw [← hln, ← hlm, e])]
    have hnm' : ((n : Int) == (m : Int)) = false := beq_eq_false_iff_ne.2 (by omega)
    have hnm2 : ¬ (n : Int) = (m : Int) := by omega
    go_enter Tryd.func10, Tryd.ntmps10
    go_wp2
    go_ret
    exact ⟨by first | rfl | simp [hnm'], Below.refl _ _⟩
set_option maxRecDepth 100000 in
set_option maxHeartbeats 4000000 in
theorem small_a (AL AT AP : Option Addr) (n cL k cT m cP : Nat) (c i : Int) (w : World) (h1 : (9 : Int) < (n : Int)) : Calls Tryd.prog 8 #[.agg #[.slice AL n cL, .slice AT k cT, .int .i64 c, .int .i64 i, .slice AP m cP]] w (Ret w (.bool false)) := by
  go_enter Tryd.func8, Tryd.ntmps8
  go_wp2
  go_ret
  exact ⟨rfl, below_al (Below.refl _ _) _⟩
set_option maxRecDepth 100000 in
set_option maxHeartbeats 4000000 in
theorem small_b (AL AT AP : Option Addr) (n cL k cT m cP : Nat) (c i : Int) (w : World) (h1 : ¬ (9 : Int) < (n : Int)) (h2 : (200 : Int) < (k : Int)) : Calls Tryd.prog 8 #[.agg #[.slice AL n cL, .slice AT k cT, .int .i64 c, .int .i64 i, .slice AP m cP]] w (Ret w (.bool false)) := by
  go_enter Tryd.func8, Tryd.ntmps8
  go_wp2
  go_ret
  exact ⟨rfl, below_al (Below.refl _ _) _⟩
set_option maxRecDepth 100000 in
set_option maxHeartbeats 4000000 in
theorem small_c (AL AT AP : Option Addr) (n cL k cT m cP : Nat) (c i : Int) (w : World) (h1 : ¬ (9 : Int) < (n : Int)) (h2 : ¬ (200 : Int) < (k : Int)) (h3 : (20 : Int) < (m : Int)) : Calls Tryd.prog 8 #[.agg #[.slice AL n cL, .slice AT k cT, .int .i64 c, .int .i64 i, .slice AP m cP]] w (Ret w (.bool false)) := by
  go_enter Tryd.func8, Tryd.ntmps8
  go_wp2
  go_ret
  exact ⟨rfl, below_al (Below.refl _ _) _⟩
set_option maxRecDepth 100000 in
set_option maxHeartbeats 4000000 in
theorem small_d (AL AT AP : Option Addr) (n cL k cT m cP : Nat) (c i : Int) (T : List (List UInt8)) (w : World) (hr : RdM w AL n T) (h1 : ¬ (9 : Int) < (n : Int)) (h2 : ¬ (200 : Int) < (k : Int)) (h3 : ¬ (20 : Int) < (m : Int)) : Calls Tryd.prog 8 #[.agg #[.slice AL n cL, .slice AT k cT, .int .i64 c, .int .i64 i, .slice AP m cP]] w (Ret w (.bool (decide (∀ t ∈ T, t.length ≤ 200)))) := by
  have hln := hr.len
  have HR := Lib.hid hr
  obtain ⟨E, hE⟩ : ∃ E, E = decide (∀ t ∈ T, t.length ≤ 200) := ⟨_, rfl⟩
  rw [← hE]
  have HF : Hid (∀ i (h : i < T.length), ¬ T[i].length ≤ 200 → E = false) := Lib.hid fun i hi hne => by rw [hE]; exact decide_eq_false fun e => hne (e _ (List.getElem_mem hi))
  have HY : Hid ((∀ i (h : i < T.length), T[i].length ≤ 200) → E = true) := Lib.hid fun h => by
    rw [hE]
    refine decide_eq_true fun t ht => ?_
    obtain ⟨i, hi, rfl⟩ := List.getElem_of_mem ht
    exact h i hi
  clear hr hE
  obtain ⟨w0, hw0⟩ : ∃ x, x = w.alloc (.cells #[.slice AL n cL, .slice AT k cT, .int .i64 c, .int .i64 i, .slice AP m cP] 28) := ⟨_, rfl⟩
  have hB0 : Below w.heap.size w w0 := by rw [hw0]; exact below_al (Below.refl _ _) _
  have hk0 : Blk w0 w.heap.size [.slice AL n cL, .slice AT k cT, .int .i64 c, .int .i64 i, .slice AP m cP] 28 := by rw [hw0]; exact Blk.new w _ _
  have hw1 : w.alloc (.cells #[.slice AL n cL, .slice AT k cT, .int .i64 c, .int .i64 i, .slice AP m cP] 28) = w0 := hw0.symm
  have s0 : w0.cell? ⟨w.heap.size, 0, none⟩ = some (.slice AL n cL) := hk0.cell 0
  have s1 : w0.cell? ⟨w.heap.size, 1, none⟩ = some (.slice AT k cT) := hk0.cell 1
  have s4 : w0.cell? ⟨w.heap.size, 4, none⟩ = some (.slice AP m cP) := hk0.cell 4
  clear hw0
  go_enter Tryd.func8, Tryd.ntmps8
  go_upto_region 1 with fail
  try rw [hw1]
  clear hw1
  go_wp2
  go_loopw [25] (fun kv wr => ∃ (t : Nat), kv = .int .i64 (t : Int) ∧ t ≤ n ∧ (∀ i (h : i < T.length), i < t → T[i].length ≤ 200) ∧ Below w.heap.size w wr) (fun kv _ => n - (intOf kv).toNat)
  case atStart => exact ⟨0, by first | rfl | go_num, by omega, fun i _ hi => absurd hi (by omega), hB0⟩
  case round =>
    obtain ⟨t, rfl, htn, hno, hbel⟩ := hrel
    obtain ⟨wo, hwo⟩ : ∃ x, x = wr := ⟨_, rfl⟩
    rw [← hwo] at hbel ⊢
    clear hwo s0 s1 s4 hk0
    have HNO := Lib.hid hno
    clear hno
    by_cases hlt : t < n
    · have hlt' : (t : Int) < (n : Int) := by omega
      obtain ⟨b, off, A3, m3, c3, hl, rfl, sc, h5, h6, hrd⟩ := (HR.out.below hbel).at_ hlt
      have hm3 : (T[t]).length = m3 := hrd.1
      by_cases hbig : 200 < m3
      · have hbig' : (200 : Int) < (m3 : Int) := by omega
        have HE := Lib.hid (HF.out t hl (by omega))
        clear hm3 hrd
        go_wp2
        go_ret
        exact ⟨by rw [HE.out]; rfl, hbel⟩
      · have hbig' : ¬ (200 : Int) < (m3 : Int) := by omega
        have HN2 : Hid (∀ i (h : i < T.length), i < t + 1 → T[i].length ≤ 200) := Lib.hid fun i hi h => by
          rcases Nat.lt_or_ge i t with h7 | h7
          · exact HNO.out i hi h7
          · obtain rfl : i = t := by omega
            omega
        clear hm3 hrd
        go_wp2
        go_roundw
        case rel => exact ⟨t + 1, by go_num, by omega, HN2.out, hbel⟩
        case measure => simp [intOf]; omega
    · have hlt' : ¬ (t : Int) < (n : Int) := by omega
      have HE := Lib.hid (HY.out fun i hi => HNO.out i hi (by omega))
      go_wp2
      go_ret
      exact ⟨by rw [HE.out]; rfl, hbel⟩
/-- A case that may be gone through. -/
def smallC (n k m : Nat) (T : List (List UInt8)) : Bool := decide (n ≤ 9) && (decide (k ≤ 200) && (decide (m ≤ 20) && decide (∀ t ∈ T, t.length ≤ 200)))
set_option maxRecDepth 100000 in
theorem small_calls (AL AT AP : Option Addr) (n cL k cT m cP : Nat) (c i : Int) (T : List (List UInt8)) (w : World) (hr : RdM w AL n T) : Calls Tryd.prog 8 #[.agg #[.slice AL n cL, .slice AT k cT, .int .i64 c, .int .i64 i, .slice AP m cP]] w (Ret w (.bool (smallC n k m T))) := by
  unfold smallC
  by_cases h1 : n ≤ 9
  · by_cases h2 : k ≤ 200
    · by_cases h3 : m ≤ 20
      · rw [decide_eq_true h1, decide_eq_true h2, decide_eq_true h3]
        exact small_d AL AT AP n cL k cT m cP c i T w hr (by omega) (by omega) (by omega)
      · rw [decide_eq_true h1, decide_eq_true h2, decide_eq_false h3]
        exact small_c AL AT AP n cL k cT m cP c i w (by omega) (by omega) (by omega)
    · rw [decide_eq_true h1, decide_eq_false h2]
      exact small_b AL AT AP n cL k cT m cP c i w (by omega) (by omega)
  · rw [decide_eq_false h1]
    exact small_a AL AT AP n cL k cT m cP c i w (by omega)
end Go.Proofs.YtpoinhjkdgcnaaaDoor
