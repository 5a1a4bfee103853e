/- Merged texts: ClaX. -/
import Derived.Test.YtpoinhjkdgcnaaaDoorMbi
import Derived.Test.YtpoinhjkdgcnaaaDoorMax
import Derived.Test.YtpoinhjkdgcnaaaDoorMaz
import Derived.Test.YtpoinhjkdgcnaaaDoorMav
/- Four laws of layer 10, joined over what package clash is to answer. -/
namespace Go.Proofs.YtpoinhjkdgcnaaaDoor
open Go.RowKit
set_option linter.unusedVariables false
set_option linter.unusedSimpArgs false

def exA : Option (List UInt8 × List UInt8) → List UInt8
  | some p => p.1
  | none => []
def exB : Option (List UInt8 × List UInt8) → List UInt8
  | some p => p.2
  | none => []
set_option maxRecDepth 100000 in
theorem extV_is (o : Option (List UInt8 × List UInt8)) : extV o = .tuple #[.string ⟨(exA o).toArray⟩, .string ⟨(exB o).toArray⟩, .bool o.isSome] := by cases o <;> rfl
set_option maxRecDepth 100000 in
theorem small_is {n k m : Nat} {T : List (List UInt8)} (h : smallC n k m T = true) : n ≤ 9 ∧ k ≤ 200 ∧ m ≤ 20 ∧ ∀ t ∈ T, t.length ≤ 200 := by
  unfold smallC at h
  simp only [Bool.and_eq_true, decide_eq_true_eq] at h
  exact ⟨h.1, h.2.1, h.2.2.1, h.2.2.2⟩
set_option maxRecDepth 100000 in
theorem twice_one (W : World) (A1 : Option Addr) (n1 c1 : Nat) (z : List UInt8) (h2 : Rd W A1 n1 z) (h3 : n1 ≤ c1) (h4 : c1 ≤ maxLen) (h5 : z.length ≤ 100000) (hT : Tab W) : Calls Tryd.prog 19 #[.slice (some ⟨W.heap.size, 0, none⟩) 1 1] (W.alloc (.cells #[.slice A1 n1 c1] 23)) (Ret (W.alloc (.cells #[.slice A1 n1 c1] 23)) (.agg ((ds z).map B8).toArray)) := by
  have hb := Blk.new W #[.slice A1 n1 c1] 23
  have hB := (Below.refl W.heap.size W).alloc (Nat.le_refl _) (.cells #[.slice A1 n1 c1] 23)
  have hM : RdM (W.alloc (.cells #[.slice A1 n1 c1] 23)) (some ⟨W.heap.size, 0, none⟩) 1 [z] := ⟨rfl, fun _ => ⟨W.heap.size, 0, rfl, hb.lt, fun j hj => by
    have e : j = 0 := by simp at hj; exact hj
    subst e
    exact ⟨A1, n1, c1, hb.cell 0, h3, h4, h2.below hB⟩⟩⟩
  have := twice_calls _ (some ⟨W.heap.size, 0, none⟩) 1 1 [z] hM (hT.all hB) (by omega) (by rw [one_flat]; omega)
  rw [one_flat] at this
  exact this
set_option maxRecDepth 100000 in
theorem mem_hat {L : List (List UInt8)} {x : List UInt8} (h : x ∈ L) : ∃ k, k < L.length ∧ hat L k = x := by
  obtain ⟨k, hk, rfl⟩ := List.getElem_of_mem h
  exact ⟨k, hk, by unfold hat; rw [List.getD_eq_getElem?_getD, List.getElem?_eq_getElem hk]; rfl⟩
set_option maxRecDepth 100000 in
/-- What Extract tells is a clash. -/
theorem ext_ok (T P : List (List UInt8)) (c i : Int) (x : List UInt8) (hP : ∀ p ∈ P, p.length = 32) (hT : ∀ t ∈ T, t.length ≤ 100000) (hx : x.length ≤ 100000) : if (ext (txs T) (claim c i P x)).isSome then exA (ext (txs T) (claim c i P x)) ≠ exB (ext (txs T) (claim c i P x)) ∧ ds (exA (ext (txs T) (claim c i P x))) = ds (exB (ext (txs T) (claim c i P x))) ∧ (exA (ext (txs T) (claim c i P x))).length ≤ 100000 ∧ (exB (ext (txs T) (claim c i P x))).length ≤ 100000 else exA (ext (txs T) (claim c i P x)) = [] ∧ exB (ext (txs T) (claim c i P x)) = [] := by
  cases he : ext (txs T) (claim c i P x) with
  | none => simp [exA, exB]
  | some p =>
    obtain ⟨a, b⟩ := p
    obtain ⟨h1, h2, h3, h4⟩ := ext_some he
    obtain ⟨j, hj, hja⟩ := mem_hat h1
    have ha := claim_small c i P x hP hx j hj
    rw [hja] at ha
    simp only [Option.isSome_some, if_true, exA, exB]
    exact ⟨fun e => h3 e.symm, h4.symm, ha, txs_small T hT b h2⟩
set_option maxRecDepth 100000 in
theorem chk_goes {c i : Int} {P : List (List UInt8)} {r l : List UInt8} (h : chk c i P r l = 0) : rgt c i P.length = 0 ∧ goUp c.toNat i.toNat l P = some r := by
  by_cases h0 : rgt c i P.length = 0
  · refine ⟨h0, ?_⟩
    cases hg : goUp c.toNat i.toNat l P with
    | none =>
      exfalso
      have hu : upE c i P l = (List.replicate 32 0, 15) := by unfold upE; rw [if_neg (by rw [h0]; simp), hg]
      unfold chk at h
      rw [hu] at h
      simp at h
    | some y =>
      have hu : upE c i P l = (y, 0) := by unfold upE; rw [if_neg (by rw [h0]; simp), hg]
      unfold chk at h
      rw [hu] at h
      simp at h
      rw [h]
  · exfalso
    have hu : upE c i P l = (List.replicate 32 0, rgt c i P.length) := by unfold upE; rw [if_pos h0]
    unfold chk at h
    rw [hu] at h
    simp [h0] at h
set_option maxRecDepth 100000 in
set_option maxHeartbeats 4000000 in
theorem clashTexts_join (AL AT AP : Option Addr) (n cL k cT m cP : Nat) (c i : Int) (T : List (List UInt8)) (x : List UInt8) (P : List (List UInt8)) (w : World) (hT : Tab w) (w0 : (RdM w AL n T ∧ n ≤ cL ∧ cL ≤ maxLen) ∧ (Rd w AT k x ∧ k ≤ cT ∧ cT ≤ maxLen) ∧ (RdH w AP m P ∧ m ≤ cP ∧ cP ≤ maxLen) ∧ (Lit.int .i64 c).wf = true ∧ (Lit.int .i64 i).wf = true) (CA0 : ∀ W, Tab W → Calls Tryd.prog 9 #[] W (Ret W (.bool true))) (GT0 : ∀ (W : World) (A : Option Addr) (n c : Nat) (T : List (List UInt8)), RdM W A n T → Tab W → n ≤ 9 → n ≤ c → c ≤ maxLen → (∀ t ∈ T, t.length ≤ 200) → Calls Tryd.prog 11 #[.slice A n c] W fun e w' => ∃ A' c', e = .returned (.slice A' (txs T).length c') ∧ RdM w' A' (txs T).length (txs T) ∧ Below W.heap.size W w') (GC0 : ∀ (W : World) (AT AP : Option Addr) (k cT m cP : Nat) (c i : Int) (x : List UInt8) (P : List (List UInt8)), Rd W AT k x → RdH W AP m P → Tab W → k ≤ cT → cT ≤ maxLen → m ≤ cP → cP ≤ maxLen → k ≤ 200 → m ≤ 20 → Calls Tryd.prog 14 #[.slice AT k cT, .agg #[.int .i64 c, .int .i64 i, .slice AP m cP]] W fun e w' => ∃ A' c', e = .returned (.slice A' (claim c i P x).length c') ∧ RdM w' A' (claim c i P x).length (claim c i P x) ∧ Below W.heap.size W w') : Calls Tryd.prog 3 #[.agg #[.slice AL n cL, .slice AT k cT, .int .i64 c, .int .i64 i, .slice AP m cP]] w (Ret w (.bool true)) := by
  obtain ⟨⟨hL, hnc, hcl⟩, ⟨hX, hkc, hct⟩, ⟨hP, hmc, hcp⟩, _, _⟩ := w0
  have CA : Hid (∀ W, Below w.heap.size w W → Calls Tryd.prog 9 #[] W (Ret W (.bool true))) := Lib.hid fun W h => CA0 W (hT.all h)
  have CS : Hid (∀ W, Below w.heap.size w W → Calls Tryd.prog 8 #[.agg #[.slice AL n cL, .slice AT k cT, .int .i64 c, .int .i64 i, .slice AP m cP]] W (Ret W (.bool (smallC n k m T)))) := Lib.hid fun W h => small_calls AL AT AP n cL k cT m cP c i T W (hL.below h)
  cases hs : smallC n k m T
  · rw [hs] at CS
    exact clashTexts_asleep AL AT AP n cL k cT m cP c i w CA CS
  rw [hs] at CS
  obtain ⟨h9, h200, h20, hTs⟩ := small_is hs
  have hln := hL.len
  have hkl := hX.1
  have hT5 : ∀ t ∈ T, t.length ≤ 100000 := fun t ht => Nat.le_trans (hTs t ht) (by omega)
  have hN : (txs T).length ≤ 1000 := by
    have h6 := depth_le6 n (by omega)
    have := txsK_len T (by omega) (depth T.length)
    rw [txsK_all, hln] at this
    omega
  have hM : (claim c i P x).length ≤ 1000 := by
    have := hP.len
    unfold claim
    split
    · simp
    · rw [clm_len]; omega
  exact clashTexts_walk AL AT AP n cL k cT m cP (txs T).length (claim c i P x).length c i T P (txs T) (claim c i P x) x w CA CS
    (Lib.hid fun W h => GT0 W AL n cL T (hL.below h) (hT.all h) h9 hnc hcl hTs)
    (Lib.hid fun W h => GC0 W AT AP k cT m cP c i x P (hX.below h) (hP.below h) (hT.all h) hkc hct hmc hcp h200 h20)
    (Lib.hid fun W h => by
    refine (texts_calls AL n cL T W (hL.below h) (by omega)).mono ?_
    rintro e w' ⟨A', c', rfl, h1, h2⟩
    exact ⟨A', c', rfl, h1.rd, h2⟩)
    (Lib.hid fun W A3 c3 h => by
    refine (dtexts_calls A3 n c3 T W h (by omega) hT5).mono ?_
    rintro e w' ⟨A', c', rfl, h1, h2⟩
    exact ⟨A', c', rfl, h1.rd, h2⟩)
    (Lib.hid fun W A5 c5 h => by
    refine (dclaim_calls c i A5 m c5 P x W h (by omega)).mono ?_
    rintro e w' ⟨A', c', rfl, h1, h2⟩
    exact ⟨A', c', rfl, h1.rd, h2⟩)
    (Lib.hid fun W h => by
    refine (ref_calls c i AP m cP P W (hP.below h) (by omega)).mono ?_
    rintro e w' ⟨A', c', rfl, h1, h2⟩
    exact ⟨A', c', rfl, h1, h2⟩)
    (Lib.hid fun W A1 q c1 Q A2 c2 h1 h2 h3 => by
    have := same_calls A1 q c1 Q A2 q c2 Q W h1 h2 (by omega) (by omega)
    rw [decide_eq_true rfl] at this
    exact this)
    (Lib.hid hX) hN hM
set_option maxRecDepth 100000 in
set_option maxHeartbeats 4000000 in
theorem clashFinds_join (AL AT AP : Option Addr) (n cL k cT m cP : Nat) (c i : Int) (T : List (List UInt8)) (x : List UInt8) (P : List (List UInt8)) (w : World) (hT : Tab w) (w0 : (RdM w AL n T ∧ n ≤ cL ∧ cL ≤ maxLen) ∧ (Rd w AT k x ∧ k ≤ cT ∧ cT ≤ maxLen) ∧ (RdH w AP m P ∧ m ≤ cP ∧ cP ≤ maxLen) ∧ (Lit.int .i64 c).wf = true ∧ (Lit.int .i64 i).wf = true) (CA0 : ∀ W, Tab W → Calls Tryd.prog 9 #[] W (Ret W (.bool true))) (GE0 : ∀ (W : World) (AL AT AP : Option Addr) (n cL k cT m cP : Nat) (c i : Int) (T : List (List UInt8)) (x : List UInt8) (P : List (List UInt8)), RdM W AL n T → Rd W AT k x → RdH W AP m P → Tab W → n ≤ 9 → n ≤ cL → cL ≤ maxLen → k ≤ cT → cT ≤ maxLen → m ≤ cP → cP ≤ maxLen → k ≤ 200 → m ≤ 20 → (∀ t ∈ T, t.length ≤ 200) → Calls Tryd.prog 17 #[.slice AL n cL, .slice AT k cT, .agg #[.int .i64 c, .int .i64 i, .slice AP m cP]] W fun e w' => ∃ A1 n1 c1 A2 n2 c2, e = .returned (.tuple #[.slice A1 n1 c1, .slice A2 n2 c2, .bool (ext (txs T) (claim c i P x)).isSome]) ∧ (Rd w' A1 n1 (exA (ext (txs T) (claim c i P x))) ∧ n1 ≤ c1 ∧ c1 ≤ maxLen) ∧ (Rd w' A2 n2 (exB (ext (txs T) (claim c i P x))) ∧ n2 ≤ c2 ∧ c2 ≤ maxLen) ∧ Below W.heap.size W w') : Calls Tryd.prog 4 #[.agg #[.slice AL n cL, .slice AT k cT, .int .i64 c, .int .i64 i, .slice AP m cP]] w (Ret w (.bool true)) := by
  obtain ⟨⟨hL, hnc, hcl⟩, ⟨hX, hkc, hct⟩, ⟨hP, hmc, hcp⟩, _, _⟩ := w0
  have CA : Hid (∀ W, Below w.heap.size w W → Calls Tryd.prog 9 #[] W (Ret W (.bool true))) := Lib.hid fun W h => CA0 W (hT.all h)
  have CS : Hid (∀ W, Below w.heap.size w W → Calls Tryd.prog 8 #[.agg #[.slice AL n cL, .slice AT k cT, .int .i64 c, .int .i64 i, .slice AP m cP]] W (Ret W (.bool (smallC n k m T)))) := Lib.hid fun W h => small_calls AL AT AP n cL k cT m cP c i T W (hL.below h)
  cases hs : smallC n k m T
  · rw [hs] at CS
    exact clashFinds_asleep AL AT AP n cL k cT m cP c i w CA CS
  rw [hs] at CS
  obtain ⟨h9, h200, h20, hTs⟩ := small_is hs
  have hln := hL.len
  have hkl := hX.1
  have hT5 : ∀ t ∈ T, t.length ≤ 100000 := fun t ht => Nat.le_trans (hTs t ht) (by omega)
  exact clashFinds_walk AL AT AP n cL k cT m cP c i T P x _ _ _ w CA CS (Lib.hid fun W h => GE0 W AL AT AP n cL k cT m cP c i T x P (hL.below h) (hX.below h) (hP.below h) (hT.all h) h9 hnc hcl hkc hct hmc hcp h200 h20 hTs)
    (Lib.hid fun W h => by
    refine (texts_calls AL n cL T W (hL.below h) (by omega)).mono ?_
    rintro e w' ⟨A', c', rfl, h1, h2⟩
    exact ⟨A', c', rfl, h1.rd, h2⟩)
    (Lib.hid fun W h => by
    refine (ref_calls c i AP m cP P W (hP.below h) (by omega)).mono ?_
    rintro e w' ⟨A', c', rfl, h1, h2⟩
    exact ⟨A', c', rfl, h1, h2⟩)
    (Lib.hid fun W A3 c3 A5 c5 h1 h2 => by
    have := dextract_calls A3 n c3 T c i A5 m c5 P x W h1 h2 (by omega) (by omega) hT5 (by omega)
    rw [extV_is] at this
    exact this)
    (Lib.hid hX)
set_option maxRecDepth 100000 in
set_option maxHeartbeats 4000000 in
theorem clashIs_join (AL AT AP : Option Addr) (n cL k cT m cP : Nat) (c i : Int) (T : List (List UInt8)) (x : List UInt8) (P : List (List UInt8)) (w : World) (hT : Tab w) (w0 : (RdM w AL n T ∧ n ≤ cL ∧ cL ≤ maxLen) ∧ (Rd w AT k x ∧ k ≤ cT ∧ cT ≤ maxLen) ∧ (RdH w AP m P ∧ m ≤ cP ∧ cP ≤ maxLen) ∧ (Lit.int .i64 c).wf = true ∧ (Lit.int .i64 i).wf = true) (CA0 : ∀ W, Tab W → Calls Tryd.prog 9 #[] W (Ret W (.bool true))) (GE0 : ∀ (W : World) (AL AT AP : Option Addr) (n cL k cT m cP : Nat) (c i : Int) (T : List (List UInt8)) (x : List UInt8) (P : List (List UInt8)), RdM W AL n T → Rd W AT k x → RdH W AP m P → Tab W → n ≤ 9 → n ≤ cL → cL ≤ maxLen → k ≤ cT → cT ≤ maxLen → m ≤ cP → cP ≤ maxLen → k ≤ 200 → m ≤ 20 → (∀ t ∈ T, t.length ≤ 200) → Calls Tryd.prog 17 #[.slice AL n cL, .slice AT k cT, .agg #[.int .i64 c, .int .i64 i, .slice AP m cP]] W fun e w' => ∃ A1 n1 c1 A2 n2 c2, e = .returned (.tuple #[.slice A1 n1 c1, .slice A2 n2 c2, .bool (ext (txs T) (claim c i P x)).isSome]) ∧ (Rd w' A1 n1 (exA (ext (txs T) (claim c i P x))) ∧ n1 ≤ c1 ∧ c1 ≤ maxLen) ∧ (Rd w' A2 n2 (exB (ext (txs T) (claim c i P x))) ∧ n2 ≤ c2 ∧ c2 ≤ maxLen) ∧ Below W.heap.size W w') : Calls Tryd.prog 5 #[.agg #[.slice AL n cL, .slice AT k cT, .int .i64 c, .int .i64 i, .slice AP m cP]] w (Ret w (.bool true)) := by
  obtain ⟨⟨hL, hnc, hcl⟩, ⟨hX, hkc, hct⟩, ⟨hP, hmc, hcp⟩, _, _⟩ := w0
  have CA : Hid (∀ W, Below w.heap.size w W → Calls Tryd.prog 9 #[] W (Ret W (.bool true))) := Lib.hid fun W h => CA0 W (hT.all h)
  have CS : Hid (∀ W, Below w.heap.size w W → Calls Tryd.prog 8 #[.agg #[.slice AL n cL, .slice AT k cT, .int .i64 c, .int .i64 i, .slice AP m cP]] W (Ret W (.bool (smallC n k m T)))) := Lib.hid fun W h => small_calls AL AT AP n cL k cT m cP c i T W (hL.below h)
  cases hs : smallC n k m T
  · rw [hs] at CS
    exact clashIs_asleep AL AT AP n cL k cT m cP c i w CA CS
  rw [hs] at CS
  obtain ⟨h9, h200, h20, hTs⟩ := small_is hs
  have hln := hL.len
  have hkl := hX.1
  have hT5 : ∀ t ∈ T, t.length ≤ 100000 := fun t ht => Nat.le_trans (hTs t ht) (by omega)
  exact clashIs_walk AL AT AP n cL k cT m cP c i _ _ _ w CA CS (Lib.hid fun W h => GE0 W AL AT AP n cL k cT m cP c i T x P (hL.below h) (hX.below h) (hP.below h) (hT.all h) h9 hnc hcl hkc hct hmc hcp h200 h20 hTs) (Lib.hid fun W A1 n1 c1 z h1 h2 h3 h4 h5 => twice_one W A1 n1 c1 z h2 h3 h4 h5 (hT.all h1)) (Lib.hid (ext_ok T P c i x hP.all hT5 (by omega)))
set_option maxRecDepth 100000 in
set_option maxHeartbeats 4000000 in
theorem clashOr_join (AL AT AP : Option Addr) (n cL k cT m cP : Nat) (c i : Int) (T : List (List UInt8)) (x : List UInt8) (P : List (List UInt8)) (w : World) (hT : Tab w) (w0 : (RdM w AL n T ∧ n ≤ cL ∧ cL ≤ maxLen) ∧ (Rd w AT k x ∧ k ≤ cT ∧ cT ≤ maxLen) ∧ (RdH w AP m P ∧ m ≤ cP ∧ cP ≤ maxLen) ∧ (Lit.int .i64 c).wf = true ∧ (Lit.int .i64 i).wf = true) (CA0 : ∀ W, Tab W → Calls Tryd.prog 9 #[] W (Ret W (.bool true))) (GE0 : ∀ (W : World) (AL AT AP : Option Addr) (n cL k cT m cP : Nat) (c i : Int) (T : List (List UInt8)) (x : List UInt8) (P : List (List UInt8)), RdM W AL n T → Rd W AT k x → RdH W AP m P → Tab W → n ≤ 9 → n ≤ cL → cL ≤ maxLen → k ≤ cT → cT ≤ maxLen → m ≤ cP → cP ≤ maxLen → k ≤ 200 → m ≤ 20 → (∀ t ∈ T, t.length ≤ 200) → Calls Tryd.prog 17 #[.slice AL n cL, .slice AT k cT, .agg #[.int .i64 c, .int .i64 i, .slice AP m cP]] W fun e w' => ∃ A1 n1 c1 A2 n2 c2, e = .returned (.tuple #[.slice A1 n1 c1, .slice A2 n2 c2, .bool (ext (txs T) (claim c i P x)).isSome]) ∧ (Rd w' A1 n1 (exA (ext (txs T) (claim c i P x))) ∧ n1 ≤ c1 ∧ c1 ≤ maxLen) ∧ (Rd w' A2 n2 (exB (ext (txs T) (claim c i P x))) ∧ n2 ≤ c2 ∧ c2 ≤ maxLen) ∧ Below W.heap.size W w') : Calls Tryd.prog 6 #[.agg #[.slice AL n cL, .slice AT k cT, .int .i64 c, .int .i64 i, .slice AP m cP]] w (Ret w (.bool true)) := by
  obtain ⟨⟨hL, hnc, hcl⟩, ⟨hX, hkc, hct⟩, ⟨hP, hmc, hcp⟩, _, _⟩ := w0
  have CA : Hid (∀ W, Below w.heap.size w W → Calls Tryd.prog 9 #[] W (Ret W (.bool true))) := Lib.hid fun W h => CA0 W (hT.all h)
  have CS : Hid (∀ W, Below w.heap.size w W → Calls Tryd.prog 8 #[.agg #[.slice AL n cL, .slice AT k cT, .int .i64 c, .int .i64 i, .slice AP m cP]] W (Ret W (.bool (smallC n k m T)))) := Lib.hid fun W h => small_calls AL AT AP n cL k cT m cP c i T W (hL.below h)
  cases hs : smallC n k m T
  · rw [hs] at CS
    exact clashOr_asleep AL AT AP n cL k cT m cP c i w CA CS
  rw [hs] at CS
  obtain ⟨h9, h200, h20, hTs⟩ := small_is hs
  have hln := hL.len
  have hkl := hX.1
  have hT5 : ∀ t ∈ T, t.length ≤ 100000 := fun t ht => Nat.le_trans (hTs t ht) (by omega)
  by_cases hn0 : n = 0
  · exact clashOr_none AL AT AP n cL k cT m cP c i w CA CS hn0
  have hnb : ((n : Int) == 0) = false := beq_eq_false_iff_ne.2 (by omega)
  by_cases hk6 : k = 64
  · exact clashOr_sixty AL AT AP n cL k cT m cP c i w CA CS hnb hk6
  have hr32 := rootH_len (sums T) (sums_32 T)
  refine clashOr_walk AL AT AP n cL k cT m cP (chk c i P (rootH (sums T)) (ds x)) c i T x _ _ _ ((rootH (sums T)).map B8) ((ds x).map B8) w CA CS (Lib.hid fun W h => GE0 W AL AT AP n cL k cT m cP c i T x P (hL.below h) (hX.below h) (hP.below h) (hT.all h) h9 hnc hcl hkc hct hmc hcp h200 h20 hTs) (Lib.hid fun W A1 n1 c1 z h1 h2 h3 h4 h5 => twice_one W A1 n1 c1 z h2 h3 h4 h5 (hT.all h1)) (Lib.hid fun W h => ?_) (Lib.hid fun W A' c' h1 h2 h3 h4 => groot_calls A' n c' (sums T) W h2 (hT.all h1) (by omega) h3 h4) (Lib.hid fun W g h1 h2 => ?_) (Lib.hid fun W h => bcheck_calls c i AP m cP P (rootH (sums T)) (ds x) W (hP.below h) (hT.all h) (ds_len _) hr32) (Lib.hid fun h64 hck => ?_) (Lib.hid hL) (Lib.hid hX) hkc hct hnb (beq_eq_false_iff_ne.2 (by omega)) (by omega)
  · refine (sums_calls AL n cL T W (hL.below h) (hT.all h) (by omega) (fun t ht => Nat.le_trans (hTs t ht) (by omega))).mono ?_
    rintro e w' ⟨A', c', rfl, h1, h2⟩
    exact ⟨A', c', rfl, h1.rd, h1.cap.1, h1.cap.2, h2⟩
  · have := twice_calls W (some ⟨g, 0, none⟩) 1 1 [x] h2 (hT.all h1) (by omega) (by rw [one_flat]; omega)
    rw [one_flat] at this
    exact this
  · obtain ⟨hrg, hgo⟩ := chk_goes hck
    obtain ⟨g1, g2, g3, g4, g5⟩ := rgt_zero hrg
    rcases clash_or T c.toNat i.toNat P x (by omega) h64 (by omega) (by omega) g5 hP.all hgo with ⟨h1, h2⟩ | h
    · exact .inl ⟨g3, by omega, h2⟩
    · right
      have hcl : claim c i P x = clm i.toNat x P := by unfold claim; rw [if_neg (by rw [hrg]; simp)]
      rw [← hcl] at h
      obtain ⟨a, b, hab⟩ := ext_is h
      have hok := ext_ok T P c i x hP.all hT5 (by omega)
      rw [hab] at hok ⊢
      exact ⟨rfl, hok.1, hok.2.1, hok.2.2.1, hok.2.2.2⟩
end Go.Proofs.YtpoinhjkdgcnaaaDoor
