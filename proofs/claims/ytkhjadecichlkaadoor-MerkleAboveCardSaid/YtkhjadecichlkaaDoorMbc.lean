/- Merged texts: MrkR. -/
import Derived.Test.YtkhjadecichlkaaDoorMba
import Derived.Test.YtkhjadecichlkaaDoorMbb
import Derived.RangeFuncLeaves
import Derived.Shelf.Abstract
import Derived.Shelf.RegionOpen
import Derived.OwnWalkIn
import Derived.TacticsInMore
import Derived.LoopNIn
import Derived.LoopIn
/- The contract of package merkle's levels: the levels of a list, from the list up, one a round. -/
namespace Go.Proofs.YtkhjadecichlkaaDoor
open Go.RowKit Go.Shelf
set_option linter.unusedVariables false
set_option linter.unusedSimpArgs false

/-- A slice of hashes that lies in no block of S. -/
def RdHF (w : World) (S : Nat → Prop) (A : Option Addr) (n : Nat) (L : List (List UInt8)) : Prop :=
  L.length = n ∧ (∀ h ∈ L, h.length = 32) ∧ (0 < n → ∃ b off, A = some ⟨b, off, none⟩ ∧ ¬ S b ∧ b < w.heap.size ∧ ∀ i, i < n → w.rangeAt b (off + i * 32) ((hat L i).map B8))
set_option maxRecDepth 100000 in
theorem RdHF.rd {w : World} {S : Nat → Prop} {A : Option Addr} {n : Nat} {L : List (List UInt8)} (h : RdHF w S A n L) : RdH w A n L :=
  ⟨h.1, h.2.1, fun hn => by obtain ⟨b, off, e, _, hlt, hc⟩ := h.2.2 hn; exact ⟨b, off, e, hlt, hc⟩⟩
set_option maxRecDepth 100000 in
theorem RdHF.frm {w W : World} {S : Nat → Prop} {A : Option Addr} {n : Nat} {L : List (List UInt8)} (h : RdHF w S A n L) (hf : Frm S w W) : RdHF W S A n L :=
  ⟨h.1, h.2.1, fun hn => by
    obtain ⟨b, off, e, hS, hlt, hc⟩ := h.2.2 hn
    exact ⟨b, off, e, hS, Nat.lt_of_lt_of_le hlt hf.size, fun i hi j v hv => (hf.cell (p := ⟨b, off + i * 32 + j, none⟩) hlt hS).trans (hc i hi j v hv)⟩⟩
set_option maxRecDepth 100000 in
theorem RdHF.old {w W : World} {S : Nat → Prop} {A : Option Addr} {n : Nat} {L : List (List UInt8)} (h : RdH w A n L) (hb : Below w.heap.size w W) (hS : ∀ i, S i → w.heap.size ≤ i) : RdHF W S A n L :=
  ⟨h.1, h.2.1, fun hn => by
    obtain ⟨b, off, e, hlt, hc⟩ := h.2.2 hn
    exact ⟨b, off, e, fun hs => by have := hS b hs; omega, Nat.lt_of_lt_of_le hlt hb.size, fun i hi j v hv => (hb.cell (p := ⟨b, off + i * 32 + j, none⟩) hlt).trans (hc i hi j v hv)⟩⟩
set_option maxRecDepth 100000 in
theorem RdHF.own {w : World} {S : Nat → Prop} {base n c : Nat} {e : TypeId} {A : Option Addr} {L : List (List UInt8)} (h : OwnH w base e A n c L) (hS : ∀ i, S i → i < base) : RdHF w S A n L :=
  ⟨h.rd.1, h.rd.2.1, fun hn => by
    obtain ⟨b, off, e1, hlt, hc⟩ := h.rd.2.2 hn
    refine ⟨b, off, e1, fun hs => ?_, hlt, hc⟩
    rcases h.2.2.2 with ⟨_, h0⟩ | ⟨g, cap, cur, hv, hb, _⟩
    · omega
    · injection hv with e2
      rw [e1] at e2
      injection e2 with e3
      injection e3 with e4
      have := hS b hs
      omega⟩
/-- What the levels hand to a round. -/
def LevX (L : List (List UInt8)) (T : Nat → Prop) (k : Nat) (args : Array Value) (W : World) : Prop :=
  ∃ A n c, args = #[.slice A n c] ∧ RdHF W T A n (lev k L) ∧ n ≤ c ∧ c ≤ maxLen
set_option maxRecDepth 100000 in
theorem LevX.size {L : List (List UInt8)} {T : Nat → Prop} {k : Nat} {args : Array Value} {W : World} (h : LevX L T k args W) : args.size = 1 := by
  obtain ⟨A, n, c, rfl, _⟩ := h
  rfl
set_option maxRecDepth 100000 in
theorem LevX.frm {L : List (List UInt8)} {T : Nat → Prop} {k : Nat} {args : Array Value} {W W' : World} (h : LevX L T k args W) (hf : Frm T W W') : LevX L T k args W' := by
  obtain ⟨A, n, c, e, h1, h2⟩ := h
  exact ⟨A, n, c, e, h1.frm hf, h2⟩
def lenOf : Value → Nat
  | .slice _ n _ => n
  | _ => 0
set_option maxRecDepth 100000 in
theorem lev_abv' (l : List (List UInt8)) (k : Nat) : lev (k + 1) l = abv (lev k l) := rfl
set_option maxRecDepth 100000 in
theorem wide_64 (n : Nat) (h : n ≤ 64) : ∀ k, wide n k ≤ 64
  | 0 => h
  | k + 1 => by
    have := wide_64 n h k
    show (wide n k + 1) / 2 ≤ 64
    omega
set_option maxRecDepth 100000 in
theorem wide_end (n : Nat) : wide n (depth n) ≤ 1 := by
  by_cases h : 0 < n
  · rw [wide_one n h]; omega
  · obtain rfl : n = 0 := by omega
    rw [depth_small 0 (by omega)]
    show 0 ≤ 1
    omega
set_option maxRecDepth 100000 in
set_option maxHeartbeats 4000000 in
theorem levels_calls (A : Option Addr) (n c : Nat) (w : World) : Calls Tryd.prog 19 #[.slice A n c] w fun e w' => e = .returned (.func (.func 27) #[] #[.pointer (some ⟨w.heap.size, 0, none⟩)]) ∧ w' = w.alloc (.cells #[.slice A n c] 22) := by
  go_enter Tryd.func19, Tryd.ntmps19
  go_wp2
  go_ret
  exact ⟨rfl, rfl⟩
attribute [local go_sem] Oper.semAt_some
set_option maxRecDepth 100000 in
set_option maxHeartbeats 4000000 in
theorem levels_iter (f : Nat) (hf : 1 ≤ f) (A : Option Addr) (n c : Nat) (L : List (List UInt8)) (w0 w : World) (hr : RdH w0 A n L) (hT : Tab w0) (hn : n ≤ 64) (hc : n ≤ c) (hm : c ≤ maxLen) (hb : Below w0.heap.size w0 w) (Bl : Nat) (hBl : Bl < w.heap.size) (hcell : w.cell? ⟨Bl, 0, none⟩ = some (.slice A n c)) (S : Nat → Prop) (hS : ∀ i, S i → w0.heap.size ≤ i ∧ i < w.heap.size) :
    Iter Fence.wide f Tryd.prog 27 #[.pointer (some ⟨Bl, 0, none⟩)] w (depth n + 1) S (LevX L) := by
  intro l W1 I Ix hb1 hl0 hl hst hY h0
  have hln := hr.len
  have hcell1 : W1.cell? ⟨Bl, 0, none⟩ = some (.slice A n c) := (hb1.cell (p := ⟨Bl, 0, none⟩) hBl).trans hcell
  have hbs := hb.size
  have hb01 : Below w0.heap.size w0 W1 := hb.trans (hb1.mono hbs)
  obtain ⟨T, hTT⟩ : ∃ T : Nat → Prop, T = fun i => i = l ∨ S i := ⟨_, rfl⟩
  have hT0 : ∀ i, T i → w0.heap.size ≤ i := fun i hi => by rw [hTT] at hi; rcases hi with rfl | hi; omega; exact (hS i hi).1
  have hT1 : ∀ i, T i → i < W1.heap.size := fun i hi => by rw [hTT] at hi; have := hb1.size; rcases hi with rfl | hi; exact hl; have := (hS i hi).2; omega
  have hr1 : RdHF W1 T A n (lev 0 L) := RdHF.old hr hb01 hT0
  rw [← hTT] at hY
  obtain ⟨D, hD⟩ : ∃ D, D = depth n := ⟨_, rfl⟩
  have hw1 : ∀ k, k < D → 1 < wide n k := fun k hk => wide_more n k (by omega)
  have hw2 : wide n D ≤ 1 := by rw [hD]; exact wide_end n
  have hwl : ∀ k, (lev k L).length = wide n k := fun k => by rw [lev_len, hln]
  have hw64 : ∀ k, wide n k ≤ 64 := wide_64 n hn
  have CA : Hid (∀ (W : World) (A' : Option Addr) (n' c' : Nat) (l' : List (List UInt8)), Below w0.heap.size w0 W → RdH W A' n' l' → n' ≤ 64 → n' ≤ c' → c' ≤ maxLen → Calls Tryd.prog 13 #[.slice A' n' c'] W fun e w' => ∃ A2 c2, e = .returned (.slice A2 ((n' + 1) / 2) c2) ∧ OwnH w' W.heap.size 25 A2 ((n' + 1) / 2) c2 (abv l') ∧ Below W.heap.size W w') := Lib.hid fun W A' n' c' l' h1 h2 h3 h4 h5 => gaboveO_calls A' n' c' l' W h2 (hT.all h1) h3 h4 h5
  rw [← hD] at hY ⊢
  have HY := Lib.hid hY
  have HST := Lib.hid hst
  have HW := Lib.hid (And.intro hw1 (And.intro hw2 (And.intro hwl hw64)))
  have HT0 := Lib.hid hT0
  have HT1 := Lib.hid hT1
  clear hY hst hw1 hw2 hwl hw64 hT0 hT1 hTT hS hD hcell hr hT hb hBl hl0 hl hbs
  refine callsIn_of_wp Tryd.func27 rfl trivial ?_ rfl
  simp only [Tryd.ntmps27, List.size_toArray, List.length_cons, List.length_nil, Nat.reduceAdd, Nat.reduceSub, Array.replicate_succ, Array.replicate_zero, List.push_toArray, List.append_toArray, List.nil_append, List.cons_append]
  gi_wp2
  gi_loopw [3] (fun v wr => ∃ (k : Nat) (A' : Option Addr) (n' c' : Nat), v = .slice A' n' c' ∧ k ≤ D ∧ RdHF wr T A' n' (lev k L) ∧ n' ≤ c' ∧ c' ≤ maxLen ∧ I k wr ∧ Below w0.heap.size w0 wr ∧ W1.heap.size ≤ wr.heap.size) (fun v _ => lenOf v)
  case atStart =>
    exact ⟨0, A, n, c, rfl, Nat.zero_le _, hr1, hc, hm, h0, hb01, Nat.le_refl _⟩
  case round =>
    obtain ⟨k, A', n', c', rfl, hk, hrk, hc', hm', hI, hbw, hsz⟩ := hrel
    have hn' : n' = wide n k := by rw [← HW.out.2.2.1 k, hrk.1]
    obtain ⟨fn, tmps, assign, body, hy, hR⟩ := HY.out k #[.slice A' n' c'] wr (by omega) hI ⟨A', n', c', rfl, hrk, hc', hm'⟩
    have HR := Lib.hid hrk
    have HN := Lib.hid hn'
    clear hrk hn'
    by_cases hkD : k < D
    · have hgt : (1 : Int) < (n' : Int) := by have := HW.out.1 k hkD; have := HN.out; omega
      have hgn : 1 < n' := by omega
      have h64 : n' ≤ 64 := by rw [HN.out]; exact HW.out.2.2.2 k
      gi_wp2
      refine hR.mono ?_
      rintro e W3 (⟨rfl, hJ3, hk3⟩ | ⟨rfl, hJx3⟩)
      · have hr3 := HR.out.frm hk3
        have hb3 : Below w0.heap.size w0 W3 := hbw.trans (hk3.below hbw.size HT0.out)
        have hs3 := hk3.size
        have C1 := Lib.hid (CA.out W3 A' n' c' (lev k L) hb3 hr3.rd h64 hc' hm')
        gi_wp2_with (refine ⟨trivial, ?_⟩; gi_at_call 13; refine (callsIn_wide.2 C1.out).mono ?_; rintro e' w4 ⟨A2, c2, rfl, ho4, hb4⟩)
        go_roundw
        case rel =>
          refine ⟨k + 1, A2, _, c2, rfl, by omega, RdHF.own ho4 (fun i hi => by have := HT1.out i hi; omega), ho4.cap.1, ho4.cap.2, HST.out _ _ _ hJ3 (Frm.of_below hb4), hb3.trans (hb4.mono hb3.size), ?_⟩
          have := hb4.size
          omega
        case measure => show (n' + 1) / 2 < n'; omega
      · gi_wp2
        go_end0
        exact ⟨⟨_, rfl⟩, .inr hJx3⟩
    · have hkD' : k = D := by omega
      have hgt : ¬ (1 : Int) < (n' : Int) := by have := HW.out.2.1; have := HN.out; rw [hkD'] at this; omega
      subst hkD'
      gi_wp2
      refine hR.mono ?_
      rintro e W3 (⟨rfl, hJ3, hk3⟩ | ⟨rfl, hJx3⟩)
      · gi_wp2
        go_end0
        exact ⟨⟨_, rfl⟩, .inl hJ3⟩
      · gi_wp2
        go_end0
        exact ⟨⟨_, rfl⟩, .inr hJx3⟩
end Go.Proofs.YtkhjadecichlkaaDoor
