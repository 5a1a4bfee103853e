/- Merged texts: RdM ShaV ShaY ShaL. -/
import Derived.Test.YtnfcnjboeocnmaaDoorMac
import Derived.Test.YtnfcnjboeocnmaaDoorMae
import Derived.Test.YtnfcnjboeocnmaaDoorMak
import Derived.Test.YtnfcnjboeocnmaaDoorRows
import Derived.Test.YtnfcnjboeocnmaaDoorMag
import Derived.ProofKit
import Derived.LaidMore
import Derived.OpenShut
import Derived.Stop.Joined
import Derived.Stop.LaidErr
import Derived.Lib.LaidTab
/- Words for lists of byte slices, each not longer than its capacity. -/
namespace Go.Proofs.YtnfcnjboeocnmaaDoor
open Go.RowKit
set_option linter.unusedVariables false

/-- The slice of n byte slices that begins at A holds the byte lists L. -/
def RdM (w : World) (A : Option Addr) (n : Nat) (L : List (List UInt8)) : Prop :=
  L.length = n ∧ (0 < n → ∃ b off, A = some ⟨b, off, none⟩ ∧ b < w.heap.size ∧ ∀ j (h : j < L.length), ∃ A' m c', w.cell? ⟨b, off + j, none⟩ = some (.slice A' m c') ∧ m ≤ c' ∧ c' ≤ maxLen ∧ Rd w A' m L[j])
set_option maxRecDepth 100000 in
theorem RdM.len {w : World} {A : Option Addr} {n : Nat} {L : List (List UInt8)} (h : RdM w A n L) : L.length = n := h.1
set_option maxRecDepth 100000 in
theorem RdM.at_ {w : World} {A : Option Addr} {n : Nat} {L : List (List UInt8)} (h : RdM w A n L) {k : Nat} (hk : k < n) :
    ∃ b off A' m c', ∃ hl : k < L.length, A = some ⟨b, off, none⟩ ∧ w.cell? ⟨b, off + k, none⟩ = some (.slice A' m c') ∧ m ≤ c' ∧ c' ≤ maxLen ∧ Rd w A' m L[k] := by
  obtain ⟨b, off, e, hb, hc⟩ := h.2 (by omega)
  have hl : k < L.length := by have := h.1; omega
  obtain ⟨A', m, c', h1, h2, h3, h4⟩ := hc k hl
  exact ⟨b, off, A', m, c', hl, e, h1, h2, h3, h4⟩
set_option maxRecDepth 100000 in
theorem RdM.below {w w' : World} {A : Option Addr} {n : Nat} {L : List (List UInt8)} (h : RdM w A n L) (hb : Below w.heap.size w w') : RdM w' A n L :=
  ⟨h.1, fun hn => by
    obtain ⟨b, off, e, hlt, hc⟩ := h.2 hn
    have hs := hb.size
    refine ⟨b, off, e, by omega, fun j hj => ?_⟩
    obtain ⟨A', m, c', h1, h2, h3, h4⟩ := hc j hj
    exact ⟨A', m, c', (hb.cell (p := ⟨b, off + j, none⟩) hlt).trans h1, h2, h3, h4.below hb⟩⟩
set_option maxRecDepth 100000 in
theorem rdm_rows {w : World} {a : Addr} {len cap : Nat} {A : Nat → Option Addr} {L C : Nat → Nat} {Z : Nat → List Int} (hl : len ≤ cap)
    (hrow : ∀ r, r < cap → w.cell? (a.add r) = some (.slice (A r) (L r) (C r)) ∧ L r ≤ C r ∧ C r ≤ maxLen ∧ (Z r).length = C r ∧ (∀ n ∈ Z r, (Lit.int .u8 n).wf = true) ∧ (A r = none → C r = 0) ∧
        ∀ a', A r = some a' → 0 ≤ a'.block ∧ ∀ c, c < C r → w.cell? (a'.add c) = some (.int .u8 ((Z r).getD c 0))) : ∃ LL, RdM w (some a) len LL := by
  refine ⟨(List.range len).map fun r => bytesOf (Z r) (L r), by simp, fun hn => ?_⟩
  obtain ⟨b, off, spot⟩ := a
  have hc := (hrow 0 (by omega)).1
  have hspot : spot = none := by simpa [Addr.add] using World.cell?_spot hc
  subst hspot
  refine ⟨b, off, rfl, lt_of_cell (a := (⟨b, off, none⟩ : Addr).add 0) hc, fun j hj => ?_⟩
  have hj' : j < len := by simpa using hj
  obtain ⟨h1, h2, h3, h4, h5, h6, h7⟩ := hrow j (by omega)
  have hp : (⟨b, off, none⟩ : Addr).add j = ⟨b, off + j, none⟩ := by unfold Addr.add; split <;> simp_all
  refine ⟨A j, L j, C j, by rw [← hp]; exact h1, h2, h3, ?_⟩
  rw [List.getElem_map, List.getElem_range]
  cases hA : A j with
  | none =>
    have h0 := h6 hA
    have hL : L j = 0 := by omega
    rw [hL]
    exact Rd.nil _ _
  | some x => exact rd_ints_at (fun i hi => (h7 x hA).2 i (by omega)) h2 h4 h5
set_option maxRecDepth 100000 in
/-- One byte slice, laid out anew as a list of one. -/
theorem rdm_one (W : World) (g : Nat) (hg : W.heap.size = g) (A : Option Addr) (n c : Nat) (l : List UInt8) (t : TypeId) (h : Rd W A n l) (hc : n ≤ c) (hm : c ≤ maxLen) : RdM (W.alloc (.cells #[.slice A n c] t)) (some ⟨g, 0, none⟩) 1 [l] := by
  have hb := Blk.new' W #[.slice A n c] t g hg
  refine ⟨rfl, fun _ => ⟨g, 0, rfl, hb.lt, fun j hj => ?_⟩⟩
  have : j = 0 := by simp at hj; omega
  subst this
  exact ⟨A, n, c, hb.cell 0, hc, hm, h.below ((Below.refl _ W).alloc (Nat.le_refl _) _)⟩
end Go.Proofs.YtnfcnjboeocnmaaDoor

/- The contract of sha2.Sum: the hash of the concatenation of its arguments. -/
namespace Go.Proofs.YtnfcnjboeocnmaaDoor
open Go.RowKit
set_option linter.unusedVariables false

set_option maxRecDepth 100000 in
set_option maxHeartbeats 1000000 in
theorem sum_calls (w : World) (A : Option Addr) (n c : Nat) (L : List (List UInt8)) (hR : RdM w A n L) (hT : Tab w) (hn : n ≤ 1000000000) (hf : L.flatten.length ≤ 10000000000) :
    Calls Tryd.prog 36 #[.slice A n c] w (Ret w (.agg ((sha L.flatten).map B8).toArray)) := by
  have HR := Lib.hid hR
  have HT := Lib.hid hT
  have HL := Lib.hid hR.len
  clear hR hT
  have hz32 := Lib.hid (Blk.new w (((List.replicate 32 (0 : UInt8)).map B8).toArray) 35)
  have hB0 := Lib.hid ((Below.refl w.heap.size w).alloc (Nat.le_refl _) (.cells (((List.replicate 32 (0 : UInt8)).map B8).toArray) 35))
  go_enter Tryd.func36, Tryd.ntmps36
  go_wp2_with (first
    | (go_at_call 38
       refine (new_calls _ (HT.out.all hB0.out)).mono ?_
       rintro e' w1 ⟨b, rfl, hbge, hH, hbel1⟩
       have hs1 : w.heap.size < w1.heap.size := Nat.lt_of_lt_of_le (by simp) hbel1.size
       have hb1 : w.heap.size < b := Nat.lt_of_lt_of_le (by simp) hbge
       have J1 : Hid (Blk w1 w.heap.size ((List.replicate 32 (0 : UInt8)).map B8) 35) := Lib.hid (hz32.out.below hbel1 (by simp))
       have J2 : Hid (Below w.heap.size w w1) := Lib.hid (hB0.out.trans (hbel1.mono (by simp)))
       have J3 := Lib.hid hH
       clear hH hbel1 hbge))
  go_loopw [9] (fun i wr => ∃ t : Nat, t ≤ n ∧ i = .int .i64 t ∧ Hs wr b (L.take t).flatten ∧ Blk wr w.heap.size ((List.replicate 32 (0 : UInt8)).map B8) 35 ∧ Below w.heap.size w wr) (fun i _ => n - (intOf i).toNat)
  case atStart => exact ⟨0, Nat.zero_le _, rfl, J3.out, J1.out, J2.out⟩
  case round =>
    obtain ⟨t, ht, rfl, hHs, hb0, hbl⟩ := hrel
    have hlt2 := HT.out.lt
    have hgs := hbl.size
    by_cases hlt : t < n
    · obtain ⟨g, off, A', m, c', hl, rfl, hcell, hmc, hcm, hrd⟩ := (HR.out.below hbl).at_ hlt
      have hwl : ∀ g' off', A' = some ⟨g', off', none⟩ → 0 < m → g' ≠ b := by
        intro g' off' e h0
        obtain ⟨g2, off2, A2, m2, c2, hl2, e2, hc2, _, _, hr2⟩ := HR.out.at_ (k := t) hlt
        cases e2
        obtain ⟨b3, o3, e3, hb3, _⟩ := HR.out.2 (by omega)
        cases e3
        have hcw : wr.cell? ⟨g, off + t, none⟩ = w.cell? ⟨g, off + t, none⟩ := hbl.cell (p := ⟨g, off + t, none⟩) hb3
        rw [hcw, hc2] at hcell
        cases hcell
        obtain ⟨b4, o4, e4, hb4, _⟩ := hr2.2 h0
        rw [e] at e4
        cases e4
        omega
      have hfl : (L.take t).flatten.length + m ≤ 1000000000000 := by
        have h1 := flat_le L (t + 1)
        rw [flat_take L t hl, List.length_append, hrd.len] at h1
        omega
      have HW := Lib.hid (write_calls block_calls wr b (L.take t).flatten L[t] A' m c' hHs (RdX.of hrd hwl) (HT.out.all hbl) (by omega) (by omega) hfl hmc)
      have hbt : (t : Int) < (n : Int) := by omega
      have H1 := Lib.hid hb0
      have H2 := Lib.hid hbl
      have H3 := Lib.hid (flat_take L t hl)
      clear hHs hrd hwl hfl hb0 hbl
      go_wp2_with (go_at_call 39; refine HW.out.mono ?_; rintro e' w3 ⟨rfl, hHs3, hbes3⟩)
      go_roundw
      case rel =>
        have h2 := H2.out
        have h1l := H1.out.lt
        rw [← H3.out] at hHs3
        exact ⟨t + 1, by omega, by go_num, hHs3, (hbes3.block _ (by omega) (by omega)).trans H1.out, h2.trans (hbes3.below (by omega) (by omega))⟩
      case measure => simp [intOf]; omega
    · have e : t = n := by omega
      subst e
      rw [List.take_of_length_le (by rw [HL.out]; exact Nat.le_refl _)] at hHs
      have HS := Lib.hid (hsum_calls wr b L.flatten hHs (HT.out.all hbl) (by omega))
      obtain ⟨V, hV⟩ : ∃ V, V = (sha L.flatten).map B8 := ⟨_, rfl⟩
      have hVl : V.length = 32 := by rw [hV, List.length_map, sha_len]
      have hV1 : ∀ v ∈ V, v.oneCell' = true := by rw [hV]; exact b8_one _
      have hiV : (Tryd.prog.info? 35).map (·.size) = some V.length := by rw [hVl]; exact i32
      rw [← hV] at HS
      have H1 := Lib.hid hb0
      have H2 := Lib.hid hbl
      have H3 := Lib.hid hV
      have H4 := Lib.hid hiV
      have H5 := Lib.hid hVl
      clear hHs hb0 hbl hV hiV hVl
      go_wp2_with (first
        | (go_at_call 40; refine HS.out.mono ?_; rintro e' w5 ⟨rfl, hbel5⟩)
        | (refine at_store 35 (.tmp 2) (.tmp 18) ?_; refine wpList_store_blk rfl 35 (.tmp 2) (.tmp 18) rfl w.heap.size _ V _ rfl rfl (H1.out.below hbel5 H1.out.lt) (by rw [H5.out]; simp) H4.out hV1 ?_; intro w9 hb9 ho9))
      refine bodyPost_ret (v := .agg V.toArray) ?_ rfl ⟨by rw [H3.out], (H2.out.trans (hbel5.mono H2.out.size)).trans (ho9.below (Nat.le_refl _))⟩
      exact results_cell_row Tryd.results36 _ _ w.heap.size 35 _ (0, 0) _ (by rfl) hb9 Tryd.underlying35 rfl (by rw [List.size_toArray]; exact H4.out)
end Go.Proofs.YtnfcnjboeocnmaaDoor

/- The contracts of sha2.Twice and of layer 2's awake. -/
namespace Go.Proofs.YtnfcnjboeocnmaaDoor
open Go.RowKit
set_option linter.unusedVariables false

set_option maxRecDepth 100000 in
/-- The bytes of a hash that lies in a block. -/
theorem hash_rd {w : World} {g : Nat} {t : TypeId} {V : List Value} {l : List UInt8} (h : Blk w g V t) (hV : V = l.map B8) (hl : l.length = 32) : Rd w (some ⟨g, 0, none⟩) 32 l :=
  h.rd 0 32 l hl fun j hj => by rw [hV]; simp [B8, List.getElem?_eq_getElem hj]
set_option maxRecDepth 100000 in
theorem sum1_calls (W : World) (g : Nat) (hg : W.heap.size = g) (A : Option Addr) (n c : Nat) (l : List UInt8) (h : Rd W A n l) (hc : n ≤ c) (hm : c ≤ maxLen) (hn : n ≤ 10000000000) (hT : Tab W) :
    Calls Tryd.prog 36 #[.slice (some ⟨g, 0, none⟩) 1 1] (W.alloc (.cells #[.slice A n c] 68)) (Ret (W.alloc (.cells #[.slice A n c] 68)) (.agg ((sha l).map B8).toArray)) := by
  have hr := rdm_one W g hg A n c l 68 h hc hm
  have := sum_calls _ (some ⟨g, 0, none⟩) 1 1 [l] hr (hT.all ((Below.refl _ W).alloc (Nat.le_refl _) _)) (by omega) (by simp; rw [h.len]; omega)
  simpa using this

set_option maxRecDepth 100000 in
set_option maxHeartbeats 1000000 in
theorem twice_calls (w : World) (A : Option Addr) (n c : Nat) (L : List (List UInt8)) (hR : RdM w A n L) (hT : Tab w) (hn : n ≤ 1000000000) (hf : L.flatten.length ≤ 10000000000) :
    Calls Tryd.prog 33 #[.slice A n c] w (Ret w (.agg ((sha (sha L.flatten)).map B8).toArray)) := by
  have hz32 := Lib.hid (Blk.new w (((List.replicate 32 (0 : UInt8)).map B8).toArray) 35)
  have hB0 := (Below.refl w.heap.size w).alloc (Nat.le_refl _) (.cells (((List.replicate 32 (0 : UInt8)).map B8).toArray) 35)
  obtain ⟨V, hV⟩ : ∃ V, V = (sha L.flatten).map B8 := ⟨_, rfl⟩
  have hVl : V.length = 32 := by rw [hV, List.length_map, sha_len]
  have hV1 : ∀ v ∈ V, v.oneCell' = true := by rw [hV]; exact b8_one _
  have hiV : (Tryd.prog.info? 35).map (·.size) = some V.length := by rw [hVl]; exact i32
  obtain ⟨V2, hV2⟩ : ∃ V, V = (sha (sha L.flatten)).map B8 := ⟨_, rfl⟩
  have hV2l : V2.length = 32 := by rw [hV2, List.length_map, sha_len]
  have hV21 : ∀ v ∈ V2, v.oneCell' = true := by rw [hV2]; exact b8_one _
  have hiV2 : (Tryd.prog.info? 35).map (·.size) = some V2.length := by rw [hV2l]; exact i32
  have S1 := Lib.hid (sum_calls _ A n c L (hR.below hB0) (hT.all hB0) hn hf)
  rw [← hV] at S1
  have S2 : Hid (∀ (W : World) (g : Nat) (k : Nat), W.heap.size = g → Blk W k V 35 → Tab W → Calls Tryd.prog 36 #[.slice (some ⟨g, 0, none⟩) 1 1] (W.alloc (.cells #[.slice (some ⟨k, 0, none⟩) 32 32] 68)) (Ret (W.alloc (.cells #[.slice (some ⟨k, 0, none⟩) 32 32] 68)) (.agg V2.toArray))) := Lib.hid (by
    intro W g k hg hb hTW
    rw [hV2]
    exact sum1_calls W g hg _ 32 32 _ (hash_rd hb hV (sha_len _)) (by omega) (by unfold maxLen; omega) (by omega) hTW)
  have hsl := fun g W => run_sl_all (P := Tryd.prog) 35 5 32 Tryd.underlying35 size8 g 0 (by omega) W
  have H0 := Lib.hid hB0
  have HT := Lib.hid hT
  have H1 := Lib.hid (And.intro hV hV2)
  have I1 := Lib.hid hiV
  have I2 := Lib.hid hiV2
  have L1 := Lib.hid hVl
  have L2 := Lib.hid hV2l
  clear hB0 hT hR hV hV2 hiV hiV2 hVl hV2l
  go_enter Tryd.func33, Tryd.ntmps33
  go_wp2_with (first
    | (go_at_call_of 36 A; refine S1.out.mono ?_; rintro e' w1 ⟨rfl, hbel1⟩)
    | (refine at_store 35 (.tmp 3) (.tmp 5) ?_; refine wpList_store_blk rfl 35 (.tmp 3) (.tmp 5) rfl w1.heap.size _ V _ rfl rfl (Blk.new w1 _ _) (by rw [L1.out]; rfl) I1.out hV1 ?_; intro w2 hb2 ho2
       have hB1 : Below w.heap.size w w1 := H0.out.trans (hbel1.mono (by simp))
       have hs0 := hB1.size
       have hB2 : Below w.heap.size w w2 := (hB1.alloc hs0 _).trans (ho2.below hs0)
       have hl1 : w.heap.size < w1.heap.size := Nat.lt_of_lt_of_le (by simp) hbel1.size
       have hz2 : Blk w2 w.heap.size ((List.replicate 32 (0 : UInt8)).map B8) 35 := ho2.blk ((hz32.out.below hbel1 (by simp)).alloc _) (by omega)
       have J1 := Lib.hid hB2
       have J2 := Lib.hid hz2
       have J3 := Lib.hid hb2
       clear hB1 hs0 hB2 hl1 hz2 hb2 ho2 hbel1)
    | (go_at_call 36; refine (S2.out w2 _ _ rfl J3.out (HT.out.all J1.out)).mono ?_; rintro e' w3 ⟨rfl, hbel3⟩)
    | (refine at_store 35 (.tmp 2) (.tmp 8) ?_; refine wpList_store_blk rfl 35 (.tmp 2) (.tmp 8) rfl w.heap.size _ V2 _ rfl rfl ((J2.out.alloc _).below hbel3 (by have := J2.out.lt; simp; omega)) (by rw [L2.out]; rfl) I2.out hV21 ?_; intro w9 hb9 ho9))
  refine bodyPost_ret (v := .agg V2.toArray) ?_ rfl ⟨by rw [H1.out.2], ?_⟩
  · exact results_cell_row Tryd.results33 _ _ w.heap.size 35 _ (0, 0) _ (by rfl) hb9 Tryd.underlying35 rfl (by rw [List.size_toArray]; exact I2.out)
  · have h1 := J1.out
    have hs := h1.size
    exact ((h1.alloc hs _).trans (hbel3.mono (by simp; omega))).trans (ho9.below (Nat.le_refl _))

set_option maxRecDepth 100000 in
theorem modify_last (a : Array Obj) (x : Obj) (f : Obj → Obj) : (a.push x).modify a.size f = a.push (f x) := by
  apply Array.ext
  · simp
  · intro i h1 h2
    simp only [Array.getElem_modify, Array.getElem_push]
    by_cases h : a.size = i
    · subst h
      simp
    · have hi : i < a.size := by simp at h1; omega
      simp [h, hi]
set_option maxRecDepth 100000 in
theorem freeze_new (w : World) (C : Array Value) (e : TypeId) (k : Nat) : (w.alloc (.cells C e)).freeze ⟨w.heap.size, k, none⟩ 1 = w.alloc (.cells C e (k, k + 1)) := by
  unfold World.freeze
  rw [if_neg (by decide)]
  show ({ w.alloc (.cells C e) with heap := (w.heap.push (.cells C e)).modify w.heap.size _ } : World) = _
  rw [modify_last]
  rfl
set_option maxRecDepth 100000 in
/-- A byte slice that was just built, as a byte slice. -/
theorem conv_lit (w : World) (C : Array Value) (n c : Nat) :
    (convert 68 68 (.slice (some ⟨w.heap.size, 0, none⟩) n c)).run Tryd.prog (w.alloc (.cells C 5)) = .ok (.slice (some ⟨w.heap.size, 0, none⟩) n c) (w.alloc (.cells C 5 (C.size, C.size + 1))) := by
  have hsh : (w.alloc (.cells C 5)).shape? w.heap.size = some (5, C.size) := by
    unfold World.shape?
    rw [heap_alloc_new w _]
  simp [convert, run_underlying Tryd.underlying68, run_underlying Tryd.underlying5, markStringish, hsh]
  exact freeze_new w C 5 C.size
set_option maxRecDepth 100000 in
theorem rd_frozen (w : World) (t : TypeId) (fr : Nat × Nat) : Rd (w.alloc (.cells #[.int .u8 97, .int .u8 98, .int .u8 99] t fr)) (some ⟨w.heap.size, 0, none⟩) 3 [97, 98, 99] := by
  refine ⟨rfl, fun _ => ⟨w.heap.size, 0, rfl, by simp, fun j hj => ?_⟩⟩
  rw [cell_of_row _ w.heap.size (0 + j) _ t fr (heap_alloc_new w _)]
  rcases j with _ | _ | _ | j
  · rfl
  · rfl
  · rfl
  · exact absurd hj (by simp)

end Go.Proofs.YtnfcnjboeocnmaaDoor

/- What the listed package-level variables of layer 2 give: the tables hold what the document says. -/
namespace Go.Proofs.YtnfcnjboeocnmaaDoor
open Go.RowKit
set_option linter.unusedVariables false

set_option maxRecDepth 100000 in
theorem gInit : Tryd.prog.globalNamed "masthead/sha2.initial" = some 0 := by kernel_rfl
set_option maxRecDepth 100000 in
theorem gRnds : Tryd.prog.globalNamed "masthead/sha2.rounds" = some 1 := by kernel_rfl
set_option maxRecDepth 100000 in
theorem tInit : (Tryd.prog.globals[0]?).map (·.type) = some 77 := by kernel_rfl
set_option maxRecDepth 100000 in
theorem tRnds : (Tryd.prog.globals[1]?).map (·.type) = some 88 := by kernel_rfl
/-- The listed variables with what they read as. -/
def laidT : List (String × DataW Unit) := [("masthead/sha2.initial", Rows.laid_masthead_sha2_initial), ("masthead/sha2.rounds", Rows.laid_masthead_sha2_rounds)]
set_option maxRecDepth 100000 in
theorem getD_cast (l : List Nat) (j : Nat) (hj : j < l.length) : (l.map fun (x : Nat) => (x : Int)).getD j 0 = ((l.getD j 0 : Nat) : Int) := by
  simp [List.getD, List.getElem?_eq_getElem hj]
set_option maxRecDepth 100000 in
theorem range_tab {W : World} {name : String} {g : Nat} (l : List Nat) (h : Lib.TabIs Tryd.prog W name .u32 (l.map fun (x : Nat) => (x : Int))) (hg : Tryd.prog.globalNamed name = some g) : W.rangeAt g 0 (l.map W32) := fun j v hv => by
  have hj : j < l.length := by have := (List.getElem?_eq_some_iff.1 hv).1; simpa using this
  have := h.cell hg j (by simpa using hj)
  rw [Nat.zero_add, this, getD_cast l j hj, ← hv, map_at l j hj]
set_option maxRecDepth 100000 in
theorem tab_of {W : World} (h : laidMetH Tryd.prog laidT W) : Tab W := by
  rw [MakeChecks.laidMetH_plain _ _ _ (by kernel_rfl)] at h
  have h1 : Lib.TabIs Tryd.prog W "masthead/sha2.initial" .u32 (h0.list.map fun (x : Nat) => (x : Int)) := Lib.tabIs_of_head (rest := [("masthead/sha2.rounds", Rows.laid_masthead_sha2_rounds)]) gInit tInit Tryd.underlying77 Tryd.underlying76 (by kernel_rfl) (by kernel_rfl) h
  have h2 : Lib.TabIs Tryd.prog W "masthead/sha2.rounds" .u32 (kk.map fun (x : Nat) => (x : Int)) := Lib.tabIs_of_head (rest := []) gRnds tRnds Tryd.underlying88 Tryd.underlying76 (by kernel_rfl) (by kernel_rfl) (laidMet.tail h)
  exact ⟨range_tab kk h2 gRnds, range_tab h0.list h1 gInit⟩
set_option maxRecDepth 100000 in
/-- The heap that the program's own start leaves meets the condition. -/
theorem door_met (os : Os) (args : Array Value) : laidMetH Tryd.prog laidT ((World.doorLaid Tryd.prog 400 os).forCall (fun _ _ => 0) ⟨#[], args, []⟩).memory :=
  laidMetH_of_parts3 (fuel := 8) (laidMet_of_run' 8 (by kernel_rfl) (by kernel_rfl)) (by kernel_rfl) (by kernel_rfl)
end Go.Proofs.YtnfcnjboeocnmaaDoor
