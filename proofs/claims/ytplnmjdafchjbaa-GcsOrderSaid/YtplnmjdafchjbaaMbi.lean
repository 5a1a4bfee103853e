/- Merged texts: GcsW GcsX. -/
import Derived.Test.YtplnmjdafchjbaaMbh
import Derived.Test.YtplnmjdafchjbaaMaz
import Derived.Test.YtplnmjdafchjbaaMad
import Derived.MapKept
import Derived.ChangeMaps
import Derived.WideMake
/- Package gcs: holds, Match, Any. -/
namespace Go.Proofs.Ytplnmjdafchjbaa
open Go.RowKit
set_option linter.unusedVariables false
set_option linter.unusedSimpArgs false

set_option maxRecDepth 100000 in
set_option maxHeartbeats 4000000 in
theorem holds_calls (w : World) (k l : Nat) (A : Option Addr) (n c : Nat) (N : List Nat) (X : Option Addr) (m d : Nat) (t : List UInt8) (hk : k < 2 ^ 64) (hl : l < 2 ^ 64) (hr : RdN w A n N) (ha : Asc N) (hn : n ≤ 1000) (ht : Rd w X m t) (hmd : m ≤ d) (hm : m ≤ 100000) :
    Calls Try.prog 43 #[.slice A n c, .agg #[.int .u64 (k : Int), .int .u64 (l : Int)], .slice X m d] w (Ret w (.bool (hit k l N t))) := by
  obtain ⟨x, hx⟩ : ∃ z, z = numb k l n t := ⟨_, rfl⟩
  have hv : Hid (hit k l N t = decide (x ∈ N)) := Lib.hid (by rw [hit_dec, hr.len, hx])
  obtain ⟨F, hF⟩ : ∃ z, z = n * 784931 := ⟨_, rfl⟩
  obtain ⟨s, hs⟩ : ∃ z, z = sipH k l t := ⟨_, rfl⟩
  have hs64 : s < 2 ^ 64 := by rw [hs]; exact sipH_lt k l t hk hl
  have hF64 : F < 2 ^ 64 := by omega
  have hk0 : Blk (w.alloc (.cells #[.int .u64 (k : Int), .int .u64 (l : Int)] 23)) w.heap.size [.int .u64 (k : Int), .int .u64 (l : Int)] 23 := Blk.new w _ _
  have CH : Hid (∀ W, Below w.heap.size w W → Calls Try.prog 45 #[.agg #[.int .u64 (k : Int), .int .u64 (l : Int)], .slice X m d] W (Ret W (.int .u64 (s : Int)))) := Lib.hid fun W hb => by
    rw [hs]
    exact shash_calls k l X m d t W hk hl (by omega) hmd (ht.below hb)
  have CF : Hid (∀ W : World, Calls Try.prog 20 #[.int .i64 (n : Int)] W fun e w' => e = .returned (.int .u64 (F : Int)) ∧ W = w') := Lib.hid fun W => (bound_calls n F W (by omega) hF).mono fun _ _ h => ⟨h.1, h.2.symm⟩
  have CR : Hid (∀ W : World, Calls Try.prog 21 #[.int .u64 (s : Int), .int .u64 (F : Int)] W fun e w' => e = .returned (.int .u64 (x : Int)) ∧ W = w') := Lib.hid fun W => by
    have h := range_calls s F W hs64 hF64
    have e : hi64 s F = x := by rw [hx, hs, hF]; rfl
    rw [e] at h
    exact h
  have CB : Hid (∀ W, Below w.heap.size w W → Calls Try.prog 70 #[.slice A n c, .int .u64 (x : Int)] W fun e w' => ∃ p : Int, e = .returned (.tuple #[.int .i64 p, .bool (decide (x ∈ N))]) ∧ W = w') := Lib.hid fun W hb => (bsearch_calls W A n c N x (hr.below hb) ha (by omega)).mono fun _ _ ⟨p, h1, h2⟩ => ⟨p, h1, h2.symm⟩
  obtain ⟨B, hB⟩ : ∃ z, z = decide (x ∈ N) := ⟨_, rfl⟩
  rw [← hB] at CB hv
  have HB0 : Hid (Below w.heap.size w (w.alloc (.cells #[.int .u64 (k : Int), .int .u64 (l : Int)] 23))) := Lib.hid (below_al (Below.refl _ _) _)
  clear hr ha ht hx hF hs hs64 hF64 hB
  rw [hv.out]
  clear hv
  go_enter Try.func43, Try.ntmps43
  go_wp2_with (first
    | ((with_reducible refine at_load 23 (.tmp 4) ?_); refine wpList_load_mid rfl 23 (.tmp 4) rfl (w.heap.size) (0) (by first | rfl | simp [Act.eval]) [.int .u64 (k : Int), .int .u64 (l : Int)] _ (Blk.range hk0) Try.underlying23 rfl (by kernel_rfl) ?_)
    | (go_at_call 45; refine (CH.out _ HB0.out).mono ?_; rintro e' w1 ⟨rfl, hB1⟩; have HB1 := Lib.hid (below_more HB0.out hB1); clear hB1 hk0)
    | (go_at_call 20; refine (CF.out _).mono ?_; rintro e' w2 ⟨rfl, rfl⟩)
    | (go_at_call 21; refine (CR.out _).mono ?_; rintro e' w2 ⟨rfl, rfl⟩)
    | (go_at_call 70; refine (CB.out _ HB1.out).mono ?_; rintro e' w2 ⟨p, rfl, rfl⟩))
  go_ret
  exact ⟨rfl, HB1.out⟩
set_option maxRecDepth 100000 in
set_option maxHeartbeats 4000000 in
theorem match_calls (W : World) (k l : Nat) (A : Option Addr) (n c : Nat) (b : List UInt8) (X : Option Addr) (m d : Nat) (t : List UInt8) (hk : k < 2 ^ 64) (hl : l < 2 ^ 64) (hr : Rd W A n b) (hn : n ≤ 10000) (ht : Rd W X m t) (hmd : m ≤ d) (hm : m ≤ 1000) :
    Calls Try.prog 16 #[.agg #[.int .u64 (k : Int), .int .u64 (l : Int)], .slice A n c, .slice X m d] W (Ret W (.tuple #[.bool (hit k l (vals b).1 t), .int .i64 ((vals b).2 : Int)])) := by
  have hasc := vals_asc b
  have hlen := vals_len b
  have h64 := vals_64 b
  have herr := vals_err b
  have hk0 : Blk (W.alloc (.cells #[.int .u64 (k : Int), .int .u64 (l : Int)] 23)) W.heap.size [.int .u64 (k : Int), .int .u64 (l : Int)] 23 := Blk.new W _ _
  have HB0 : Hid (Below W.heap.size W (W.alloc (.cells #[.int .u64 (k : Int), .int .u64 (l : Int)] 23))) := Lib.hid (below_al (Below.refl _ _) _)
  have CV := Lib.hid (values_calls (W.alloc (.cells #[.int .u64 (k : Int), .int .u64 (l : Int)] 23)) A n c b (hr.below HB0.out) hn)
  obtain ⟨N, E, hNE⟩ : ∃ N E, vals b = (N, E) := ⟨_, _, rfl⟩
  rw [hNE] at CV hasc hlen h64 herr ⊢
  simp only at hasc hlen h64 herr
  obtain ⟨q, hq⟩ : ∃ z, z = N.length := ⟨_, rfl⟩
  have CH : Hid (∀ (W' : World) (A' : Option Addr) (c' : Nat), Below W.heap.size W W' → RdR W' A' q (N.map VN) → Calls Try.prog 43 #[.slice A' q c', .agg #[.int .u64 (k : Int), .int .u64 (l : Int)], .slice X m d] W' (Ret W' (.bool (hit k l N t)))) := Lib.hid fun W' A' c' hb h => holds_calls W' k l A' q c' N X m d t hk hl (h.rdN h64) hasc (by omega) (ht.below hb) hmd (by omega)
  obtain ⟨B, hB⟩ : ∃ z, z = hit k l N t := ⟨_, rfl⟩
  have HE : Hid (E ≠ 0 → B = false) := Lib.hid fun h => by
    have := herr h
    rw [hB, this]
    rfl
  simp only [← hq] at CV
  rw [← hB] at CH ⊢
  have HKB : Hid (∀ w1, Below (W.heap.size + 1) (W.alloc (.cells #[.int .u64 (k : Int), .int .u64 (l : Int)] 23)) w1 → Blk w1 W.heap.size [.int .u64 (k : Int), .int .u64 (l : Int)] 23) := Lib.hid fun w1 h => hk0.below h (by omega)
  clear hNE hasc hlen h64 herr hr ht hq hB hk0
  go_enter Try.func16, Try.ntmps16
  go_upto_region 2 with (first
    | (go_at_call 14; refine CV.out.mono ?_; rintro e' w1 ⟨A1, c1, rfl, hr1, hB1⟩; have HR1 := Lib.hid hr1; have HB1 := Lib.hid (below_more HB0.out hB1); have HK1 := Lib.hid (HKB.out _ (by simpa using hB1)); clear hr1 hB1))
  by_cases hE : E = 0
  · subst hE
    have hk1 := HK1.out
    have D := Lib.hid (CH.out w1 A1 c1 HB1.out HR1.out)
    go_wp2_with (first
      | ((with_reducible refine at_load 23 (.tmp 3) ?_); refine wpList_load_mid rfl 23 (.tmp 3) rfl (W.heap.size) (0) (by first | rfl | simp [Act.eval]) [.int .u64 (k : Int), .int .u64 (l : Int)] _ (Blk.range hk1) Try.underlying23 rfl (by kernel_rfl) ?_)
      | (go_at_call 43; refine D.out.mono ?_; rintro e' w2 ⟨rfl, hB2⟩; have HB2 := Lib.hid (below_more HB1.out hB2); clear hB2))
    go_ret2
    exact ⟨rfl, HB2.out⟩
  · have hE' : ¬ (E : Int) = 0 := by omega
    have HF := Lib.hid (HE.out hE)
    go_wp2
    go_ret2
    exact ⟨by rw [HF.out]; rfl, HB1.out⟩
set_option maxRecDepth 100000 in
set_option maxHeartbeats 8000000 in
theorem any_calls (W : World) (k l : Nat) (A : Option Addr) (n c : Nat) (b : List UInt8) (X : Option Addr) (m d : Nat) (L : List (List UInt8)) (hk : k < 2 ^ 64) (hl : l < 2 ^ 64) (hr : Rd W A n b) (hn : n ≤ 10000) (ht : RdM W X m L) (hm : m ≤ 2000) (hL : ∀ t ∈ L, t.length ≤ 1000) :
    Calls Try.prog 17 #[.agg #[.int .u64 (k : Int), .int .u64 (l : Int)], .slice A n c, .slice X m d] W fun e w' => ∃ A' c', e = .returned (.tuple #[.slice A' (hits k l (vals b).1 L).length c', .int .i64 ((vals b).2 : Int)]) ∧ RdR w' A' (hits k l (vals b).1 L).length ((hits k l (vals b).1 L).map VI) ∧ Below W.heap.size W w' := by
  have hasc := vals_asc b
  have hlen := vals_len b
  have h64 := vals_64 b
  have herr := vals_err b
  have hk0 : Blk (W.alloc (.cells #[.int .u64 (k : Int), .int .u64 (l : Int)] 23)) W.heap.size [.int .u64 (k : Int), .int .u64 (l : Int)] 23 := Blk.new W _ _
  have HB0 : Hid (Below W.heap.size W (W.alloc (.cells #[.int .u64 (k : Int), .int .u64 (l : Int)] 23))) := Lib.hid (below_al (Below.refl _ _) _)
  have CV := Lib.hid (values_calls (W.alloc (.cells #[.int .u64 (k : Int), .int .u64 (l : Int)] 23)) A n c b (hr.below HB0.out) hn)
  obtain ⟨N, E, hNE⟩ : ∃ N E, vals b = (N, E) := ⟨_, _, rfl⟩
  rw [hNE] at CV hasc hlen h64 herr ⊢
  simp only at hasc hlen h64 herr
  obtain ⟨q, hq⟩ : ∃ z, z = N.length := ⟨_, rfl⟩
  have hln := ht.len
  have CH : Hid (∀ (W' : World) (A' : Option Addr) (c' : Nat) (X : Option Addr) (m d : Nat) (t : List UInt8), t ∈ L → RdR W' A' q (N.map VN) → Rd W' X m t → m ≤ d → Calls Try.prog 43 #[.slice A' q c', .agg #[.int .u64 (k : Int), .int .u64 (l : Int)], .slice X m d] W' (Ret W' (.bool (hit k l N t)))) := Lib.hid fun W' A' c' X m d t hmem h hx hmd => holds_calls W' k l A' q c' N X m d t hk hl (h.rdN h64) hasc (by omega) hx hmd (by have := hL t hmem; have := hx.len; omega)
  have HE : Hid (E ≠ 0 → hits k l N L = []) := Lib.hid fun h => by rw [herr h, hits_nil]
  simp only [← hq] at CV
  have HT := Lib.hid ht
  have HLN := Lib.hid hln
  have HKB : Hid (∀ w1, Below (W.heap.size + 1) (W.alloc (.cells #[.int .u64 (k : Int), .int .u64 (l : Int)] 23)) w1 → Blk w1 W.heap.size [.int .u64 (k : Int), .int .u64 (l : Int)] 23) := Lib.hid fun w1 h => hk0.below h (by omega)
  obtain ⟨R, hR⟩ : ∃ z, z = hits k l N L := ⟨_, rfl⟩
  have HR := Lib.hid hR
  obtain ⟨z, hz⟩ : ∃ z : Int, z = (E : Int) := ⟨_, rfl⟩
  have HEZ : Hid (¬ z = 0 → hits k l N L = []) := Lib.hid fun h => HE.out (by omega)
  rw [← hz] at CV
  rw [← hz]
  show Calls _ _ _ _ fun e w' => ∃ A' c', e = .returned (.tuple #[.slice A' (hits k l N L).length c', .int .i64 z]) ∧ RdR w' A' (hits k l N L).length ((hits k l N L).map VI) ∧ Below W.heap.size W w'
  rw [← hR]
  clear hNE hasc hlen h64 herr hr ht hq hk0 hln hR hL hz HE
  go_enter Try.func17, Try.ntmps17
  go_upto_region 2 with (first
    | (go_at_call 14; refine CV.out.mono ?_; rintro e' w1 ⟨A1, c1, rfl, hr1, hB1⟩; have HR1 := Lib.hid hr1; have HB1 := Lib.hid (below_more HB0.out hB1); have HK1 := Lib.hid (HKB.out _ (by simpa using hB1)); clear hr1 hB1))
  by_cases hE : z = 0
  · subst hE
    have hws : Hid (W.heap.size < w1.heap.size) := Lib.hid HK1.out.lt
    clear HKB CV HB0
    go_wp2
    go_loopw [23, 10] (fun iv ov wr => ∃ (i p : Nat) (A2 : Option Addr) (c2 : Nat), iv = .int .i64 (i : Int) ∧ ov = .slice A2 p c2 ∧ i ≤ m ∧ p ≤ i ∧ Hid (OwnR wr w1.heap.size 3 A2 p c2 ((hitsT k l N L i).map VI)) ∧ Hid (Below w1.heap.size w1 wr)) (fun iv _ _ => m - (intOf iv).toNat)
    case atStart => exact ⟨0, 0, none, 0, by first | rfl | go_num, by first | rfl | go_num, by omega, by omega, Lib.hid (OwnR.nil _ _ _), Lib.hid (Below.refl _ _)⟩
    case round =>
      obtain ⟨i, p, A2, c2, rfl, rfl, him, hpi, HO, HB⟩ := hrel
      by_cases hlt : i < m
      · have hlt' : (i : Int) < (m : Int) := by omega
        obtain ⟨bb, off, A3, m3, c3, hl3, rfl, sc0, h1, h2, h3⟩ := HT.out.at_ hlt
        have hbb : bb < W.heap.size := by
          obtain ⟨b', off', e, hb', _⟩ := HT.out.2 (by omega)
          injection e with e
          injection e with e1 e2 _
          omega
        have HBW : Hid (Below W.heap.size W wr) := Lib.hid (below_more HB1.out HB.out)
        have sc := (HBW.out.cell (p := ⟨bb, off + i, none⟩) hbb).trans sc0
        have hk1 : Blk wr W.heap.size [.int .u64 (k : Int), .int .u64 (l : Int)] 23 := HK1.out.below HB.out hws.out
        have D := Lib.hid (CH.out wr A1 c1 A3 m3 c3 L[i] (List.getElem_mem hl3) (HR1.out.below HB.out) (h3.below HBW.out) h1)
        have HSt := Lib.hid (hitsT_succ k l N L i L[i] (List.getElem?_eq_getElem hl3))
        obtain ⟨f, hf⟩ : ∃ z, z = hit k l N L[i] := ⟨_, rfl⟩
        rw [← hf] at D HSt
        clear hf sc0 h1 h2 h3 hl3 hbb
        cases f
        · have HN2 : Hid (hitsT k l N L (i + 1) = hitsT k l N L i) := Lib.hid (by rw [HSt.out]; rfl)
          go_wp2_with (first
            | ((with_reducible refine at_load 23 (.tmp 3) ?_); refine wpList_load_mid rfl 23 (.tmp 3) rfl (W.heap.size) (0) (by first | rfl | simp [Act.eval]) [.int .u64 (k : Int), .int .u64 (l : Int)] _ (Blk.range hk1) Try.underlying23 rfl (by kernel_rfl) ?_)
            | (go_at_call 43; refine D.out.mono ?_; rintro e' w2 ⟨rfl, hB2⟩; have HB2 := Lib.hid (below_more HB.out hB2); have HO2 := Lib.hid (HO.out.up hB2); clear hB2))
          go_roundw
          case rel => exact ⟨i + 1, p, A2, c2, by go_num, rfl, by omega, by omega, by rw [HN2.out]; exact HO2, HB2⟩
          case measure => simp [intOf]; omega
        · have HN2 : Hid ((hitsT k l N L (i + 1)).map VI = (hitsT k l N L i).map VI ++ [VI i]) := Lib.hid (by rw [HSt.out, if_pos rfl, List.map_append]; rfl)
          go_wp2_with (first
            | ((with_reducible refine at_load 23 (.tmp 3) ?_); refine wpList_load_mid rfl 23 (.tmp 3) rfl (W.heap.size) (0) (by first | rfl | simp [Act.eval]) [.int .u64 (k : Int), .int .u64 (l : Int)] _ (Blk.range hk1) Try.underlying23 rfl (by kernel_rfl) ?_)
            | (go_at_call 43; refine D.out.mono ?_; rintro e' w2 ⟨rfl, hB2⟩; have HB2 := Lib.hid (below_more HB.out hB2); have HO2 := Lib.hid (HO.out.up hB2); clear hB2)
            | ((with_reducible refine at_bsX 43 1 #[(0, .tmp 33)] ?_); refine wpList_bsR rfl 43 3 (VI 0) (VI i) Try.underlying43 infoI rfl rfl (.tmp 33) rfl (by first | rfl | simp [Act.eval]) ?_; intro g w5 hb5 hg5 hl5 d5)
            | ((with_reducible refine at_appX 43 (.tmp 32) (.tmp 34) ?_); refine wpList_appR rfl 43 3 (VI 0) 8 Try.underlying43 infoIb rfl (by decide) (.tmp 32) (.tmp 34) rfl w1.heap.size w1 (below_more HB2.out d5) (Nat.le_refl _) A2 p c2 ((hitsT k l N L i).map VI) (by first | rfl | simp [Act.eval]) (HO2.out.up d5) _ 1 1 [VI i] (by first | rfl | simp [Act.eval]) hb5.rdR (fun u hu => by rw [List.mem_singleton.1 hu]; rfl) (by omega) ?_; intro A6 c6 w6 ho6 hf6 hB6))
          go_roundw
          case rel => exact ⟨i + 1, p + 1, A6, c6, by go_num, rfl, by omega, by omega, Lib.hid (by rw [HN2.out]; exact ho6), Lib.hid hB6⟩
          case measure => simp [intOf]; omega
      · have hlt' : ¬ (i : Int) < (m : Int) := by omega
        have e : i = m := by omega
        subst e
        have hh : Hid (hitsT k l N L i = R) := Lib.hid (by rw [HR.out]; unfold hitsT hits; rw [HLN.out])
        have HRL : Hid (R.length = p) := Lib.hid (by have := HO.out.1; rw [hh.out] at this; simpa using this)
        have HO2 : Hid (RdR wr A2 p (R.map VI)) := Lib.hid (by have := HO.out.rd; rw [hh.out] at this; exact this)
        go_wp2
        go_ret2
        first
          | exact ⟨A2, ⟨c2, by rw [HRL.out]; rfl⟩, by rw [HRL.out]; exact HO2.out, below_more HB1.out HB.out⟩
          | exact ⟨A2, c2, by rw [HRL.out]; rfl, by rw [HRL.out]; exact HO2.out, below_more HB1.out HB.out⟩
  · have HF : Hid (R = []) := Lib.hid (by rw [HR.out]; exact HEZ.out hE)
    go_wp2
    go_ret2
    exact ⟨none, 0, by rw [HF.out]; rfl, by rw [HF.out]; exact RdR.nil _ _, HB1.out⟩
end Go.Proofs.Ytplnmjdafchjbaa

/- A set of texts: a map from strings to bools that a call makes. -/
namespace Go.Proofs.Ytplnmjdafchjbaa
open Go.RowKit Go.MapKept Go.ChangeMaps
set_option linter.unusedVariables false
set_option linter.unusedSimpArgs false

def YES : Value := .bool true
set_option maxRecDepth 100000 in
theorem vt_inj {a b : List UInt8} (h : VT a = VT b) : a = b := by
  unfold VT at h
  injection h with h
  injection h with h
  simpa using h
/-- The map at block b holds the texts T, all of them true. -/
def SetS (w : World) (b : Nat) (T : List (List UInt8)) : Prop :=
  ∃ es clock, w.heap[b]? = some (.map es clock) ∧ Stamped es clock ∧ es.toList.map (fun e => (e.key, e.val)) = T.map (fun t => (VT t, YES))
set_option maxRecDepth 100000 in
theorem SetS.lt {w : World} {b : Nat} {T : List (List UInt8)} (h : SetS w b T) : b < w.heap.size := by
  obtain ⟨es, clock, hb, _⟩ := h
  exact (Array.getElem?_eq_some_iff.1 hb).1
set_option maxRecDepth 100000 in
theorem SetS.below {w w' : World} {b B : Nat} {T : List (List UInt8)} (h : SetS w b T) (hb : Below B w w') (hB : b < B) : SetS w' b T := by
  obtain ⟨es, clock, h1, h2⟩ := h
  exact ⟨es, clock, (hb.block b hB).trans h1, h2⟩
set_option maxRecDepth 100000 in
theorem SetS.up {w w' : World} {b : Nat} {T : List (List UInt8)} (h : SetS w b T) (hb : Below w.heap.size w w') : SetS w' b T := h.below hb h.lt
set_option maxRecDepth 100000 in
theorem SetS.new (w : World) : SetS (w.alloc (.map #[] 0)) w.heap.size [] := ⟨#[], 0, (MapKept.heap_alloc w _).1, stamped_empty 0, rfl⟩
set_option maxRecDepth 100000 in
theorem SetS.keys {es : Array MapEntry} {T : List (List UInt8)} (h4 : es.toList.map (fun e => (e.key, e.val)) = T.map (fun t => (VT t, YES))) : ∀ e ∈ es.toList, IsKey .string e.key := fun e he => by
  have : (e.key, e.val) ∈ T.map (fun t => (VT t, YES)) := by rw [← h4]; exact List.mem_map.2 ⟨e, he, rfl⟩
  obtain ⟨p, hp, e2⟩ := List.mem_map.1 this
  injection e2 with e2 _
  rw [← e2]
  trivial
set_option maxRecDepth 100000 in
theorem zeroB (w : World) : (zeroValue 4).run Try.prog w = .ok (.bool false) w := by
  have h : (Try.prog.info? 4).map (fun i => i.zero) = some (some (.bool false)) := by kernel_rfl
  obtain ⟨i, hi, hz⟩ := Option.map_eq_some_iff.1 h
  simp [zeroValue, typeInfo, hi, hz]
set_option maxRecDepth 100000 in
theorem look_S {w : World} {b : Nat} {T : List (List UInt8)} (hm : SetS w b T) (s : List UInt8) :
    (Instr.lookup 84 (.map (some b)) (VT s) false).run Try.prog w = .ok (.bool (decide (s ∈ T))) w := by
  obtain ⟨es, clock, hb, hs, h4⟩ := hm
  have hck : ∀ e, (Instr.checkKey e 10000 9 (VT s)).run Try.prog w = .ok () w := fun e => run_checkKey (d := .string) Try.underlying9 (show IsKey .string (VT s) from trivial) e 9999
  rcases findNow_spec (d := .string) (k := VT s) trivial es.toList 0 (SetS.keys h4) with ⟨h1, h2⟩ | ⟨j, e0, h1, h2, h5⟩
  · have hn : s ∉ T := fun hin => by
      have : (VT s, YES) ∈ es.toList.map (fun e => (e.key, e.val)) := by rw [h4]; exact List.mem_map.2 ⟨s, hin, rfl⟩
      obtain ⟨x, hx, e2⟩ := List.mem_map.1 this
      injection e2 with e2 _
      exact h2 x hx e2
    rw [decide_eq_false hn]
    simp [Instr.lookup, run_underlying Try.underlying84, MapKept.run_getObj_map hb, hck, run_findKey (d := .string) Try.underlying9 h1, zeroB w, Result.andThen]
  · have hmem : e0 ∈ es.toList := List.mem_of_getElem? h2
    have : (e0.key, e0.val) ∈ T.map (fun t => (VT t, YES)) := by rw [← h4]; exact List.mem_map.2 ⟨e0, hmem, rfl⟩
    obtain ⟨p, hp, e2⟩ := List.mem_map.1 this
    injection e2 with e2 e3
    have hps : p = s := vt_inj (by rw [e2, h5])
    have hin : s ∈ T := by rw [← hps]; exact hp
    have hv : e0.val = .bool true := e3.symm
    rw [decide_eq_true hin]
    simp [Instr.lookup, run_underlying Try.underlying84, MapKept.run_getObj_map hb, hck, run_findKey (d := .string) Try.underlying9 h1, Result.andThen, hv]
set_option maxRecDepth 100000 in
theorem len_S {w : World} {b : Nat} {T : List (List UInt8)} (hm : SetS w b T) (ty : TypeId) : (Builtin.len_ #[84] ty #[.map (some b)]).run Try.prog w = .ok (.int .i64 (T.length : Int)) w := by
  obtain ⟨es, clock, hb, hs, h4⟩ := hm
  have hsz : es.size = T.length := by
    have := congrArg List.length h4
    simpa using this
  simp [Builtin.len_, run_underlying Try.underlying84, MapKept.run_getObj_map hb, Result.andThen, goInt, hsz]
set_option maxRecDepth 100000 in
theorem put_S {w : World} {b : Nat} {T : List (List UInt8)} (hm : SetS w b T) (s : List UInt8) (hn : s ∉ T) :
    ∃ o, (Instr.mapUpdate 84 (.map (some b)) (VT s) (.bool true)).run Try.prog w = .ok () (setBlock w b o) ∧ SetS (setBlock w b o) b (T ++ [s]) := by
  obtain ⟨es, clock, hb, hs, h4⟩ := hm
  have hck : ∀ e, (Instr.checkKey e 10000 9 (VT s)).run Try.prog w = .ok () w := fun e => run_checkKey (d := .string) Try.underlying9 (show IsKey .string (VT s) from trivial) e 9999
  rcases findNow_spec (d := .string) (k := VT s) trivial es.toList 0 (SetS.keys h4) with ⟨h1, h2⟩ | ⟨j, e0, h1, h2, h5⟩
  · refine ⟨.map (es.push ⟨VT s, .bool true, clock⟩) (clock + 1), ?_, es.push ⟨VT s, .bool true, clock⟩, clock + 1, (MapKept.heap_set hb).1, stamped_push hs h2, ?_⟩
    · simp [Instr.mapUpdate, run_underlying Try.underlying84, MapKept.run_getObj_map hb, hck, run_findKey (d := .string) Try.underlying9 h1, MapKept.run_setObj_map _ hb, Result.andThen, setBlock]
    · rw [Array.toList_push, List.map_append, List.map_append, h4]
      rfl
  · exfalso
    have hmem : e0 ∈ es.toList := List.mem_of_getElem? h2
    have : (e0.key, e0.val) ∈ T.map (fun t => (VT t, YES)) := by rw [← h4]; exact List.mem_map.2 ⟨e0, hmem, rfl⟩
    obtain ⟨p, hp, e2⟩ := List.mem_map.1 this
    injection e2 with e2 e3
    exact hn (by rw [← vt_inj (e2.trans h5)]; exact hp)
set_option maxRecDepth 100000 in
theorem frm_setS (w : World) (b : Nat) (o : Obj) : Frm (fun i => i = b) w (setBlock w b o) :=
  ⟨rfl, rfl, rfl, by simp [setBlock], fun i hi hn => by
    show (w.heap.setIfInBounds b o)[i]? = w.heap[i]?
    rw [Array.getElem?_setIfInBounds_ne (fun e => hn e.symm)]⟩
section
variable {ops : Array Oper} {rest : List Oper} {o : Oper} {a : Act} {W : World} {Q : Exit → Act → World → Prop}
set_option maxRecDepth 100000 in
theorem at_ssM {dst : Option Tmp} {t : TypeId} {p : String} {af : Array Edge} (ty : TypeId)
    (h : wpList Try.prog ops Q ({ dst := dst, op := .makeMap ty none, type := t, pos := p, after := af, guard := none } :: rest) a W) : wpList Try.prog ops Q ({ dst := dst, op := .makeMap ty none, type := t, pos := p, after := af, guard := none } :: rest) a W := h
set_option maxRecDepth 100000 in
theorem at_ssL {dst : Option Tmp} {t : TypeId} {p : String} {af : Array Edge} (ty : TypeId) (m k : Operand)
    (h : wpList Try.prog ops Q ({ dst := dst, op := .lookup ty m k false, type := t, pos := p, after := af, guard := none } :: rest) a W) : wpList Try.prog ops Q ({ dst := dst, op := .lookup ty m k false, type := t, pos := p, after := af, guard := none } :: rest) a W := h
set_option maxRecDepth 100000 in
theorem at_ssN {dst : Option Tmp} {t : TypeId} {p : String} {af : Array Edge} (ty : TypeId) (m : Operand)
    (h : wpList Try.prog ops Q ({ dst := dst, op := .call { callee := .builtin .len, args := #[m], argTypes := #[ty] }, type := t, pos := p, after := af, guard := none } :: rest) a W) : wpList Try.prog ops Q ({ dst := dst, op := .call { callee := .builtin .len, args := #[m], argTypes := #[ty] }, type := t, pos := p, after := af, guard := none } :: rest) a W := h
set_option maxRecDepth 100000 in
theorem at_ssU {dst : Option Tmp} {t : TypeId} {p : String} {af : Array Edge} (ty : TypeId) (m k v : Operand)
    (h : wpList Try.prog ops Q ({ dst := dst, op := .mapUpdate ty m k v, type := t, pos := p, after := af, guard := none } :: rest) a W) : wpList Try.prog ops Q ({ dst := dst, op := .mapUpdate ty m k v, type := t, pos := p, after := af, guard := none } :: rest) a W := h
set_option maxRecDepth 100000 in
theorem wpList_ssM (hgd : o.guard = none) (ty : TypeId) (ho : o.op = .makeMap ty none)
    (cont : ∀ b W2, W.heap.size = b → SetS W2 b [] → Below W.heap.size W W2 → b < W2.heap.size → wpList Try.prog ops Q rest (a.put o.dst (.map (some b))) W2) : wpList Try.prog ops Q (o :: rest) a W := by
  refine wpList_plain hgd fun K hK => ?_
  unfold Oper.wp execOp
  simp only [ho, Option.map_none, Sem.run_bind, run_makeMap_plain, Result.andThen_ok]
  exact hK _ _ (cont _ _ rfl (SetS.new W) ((Below.refl _ W).alloc (Nat.le_refl _) _) (by simp))
set_option maxRecDepth 100000 in
theorem wpList_ssL (hgd : o.guard = none) (m k : Operand) (ho : o.op = .lookup 84 m k false) {b : Nat} {T : List (List UInt8)} (h : SetS W b T) (s : List UInt8) (hm : a.eval m = .map (some b)) (hk : a.eval k = VT s)
    (cont : wpList Try.prog ops Q rest (a.put o.dst (.bool (decide (s ∈ T)))) W) : wpList Try.prog ops Q (o :: rest) a W := by
  refine wpList_plain hgd fun K hK => ?_
  unfold Oper.wp execOp
  simp only [ho, hm, hk, Sem.run_bind, look_S h s, Result.andThen_ok]
  exact hK _ _ cont
set_option maxRecDepth 100000 in
theorem wpList_ssN (hgd : o.guard = none) (m : Operand) (ho : o.op = .call { callee := .builtin .len, args := #[m], argTypes := #[84] }) {b : Nat} {T : List (List UInt8)} (h : SetS W b T) (hm : a.eval m = .map (some b))
    (cont : wpList Try.prog ops Q rest (a.put o.dst (.int .i64 (T.length : Int))) W) : wpList Try.prog ops Q (o :: rest) a W := by
  refine wpList_plain hgd fun K hK => ?_
  unfold Oper.wp
  simp [execOp, resolve, invoke, builtin, ho, hm, len_S h, Result.andThen]
  exact hK _ _ cont
set_option maxRecDepth 100000 in
theorem wpList_ssU (hgd : o.guard = none) (m k v : Operand) (ho : o.op = .mapUpdate 84 m k v) {b : Nat} {T : List (List UInt8)} (h : SetS W b T) (s : List UInt8) (hn : s ∉ T) (hm : a.eval m = .map (some b)) (hk : a.eval k = VT s) (hv : a.eval v = .bool true)
    (cont : ∀ W2, SetS W2 b (T ++ [s]) → Frm (fun i => i = b) W W2 → wpList Try.prog ops Q rest (a.put o.dst undef) W2) : wpList Try.prog ops Q (o :: rest) a W := by
  refine wpList_plain hgd fun K hK => ?_
  obtain ⟨o2, hrun, h2⟩ := put_S h s hn
  unfold Oper.wp
  simp [execOp, ho, hm, hk, hv, hrun, Result.andThen]
  exact hK _ _ (cont _ h2 (frm_setS W b o2))
end
end Go.Proofs.Ytplnmjdafchjbaa
