/- Merged texts: MrkR MrkY. -/
import Derived.Test.YtnfcnjboeocnmaaDoorMba
import Derived.Test.YtnfcnjboeocnmaaDoorMbb
import Derived.RangeFuncLeaves
import Derived.Shelf.Abstract
import Derived.Shelf.RegionOpen
import Derived.OwnWalkIn
import Derived.TacticsInMore
import Derived.LoopNIn
import Derived.LoopIn
/- The contract of package merkle's levels: the levels of a list, from the list up, one a round. -/
namespace Go.Proofs.YtnfcnjboeocnmaaDoor
open Go.RowKit Go.Shelf
set_option linter.unusedVariables false
set_option linter.unusedSimpArgs false

/-- A slice of hashes that lies in no block of S. -/
def RdHF (w : World) (S : Nat → Prop) (A : Option Addr) (n : Nat) (L : List (List UInt8)) : Prop :=
  L.length = n ∧ (∀ h ∈ L, h.length = 32) ∧ (0 < n → ∃ b off, A = some ⟨b, off, none⟩ ∧ ¬ S b ∧ b < w.heap.size ∧ ∀ i, i < n → w.rangeAt b (off + i * 32) ((hat L i).map B8))
set_option maxRecDepth 100000 in
theorem RdHF.rd {w : World} {S : Nat → Prop} {A : Option Addr} {n : Nat} {L : List (List UInt8)} (h : RdHF w S A n L) : RdH w A n L :=
  ⟨h.1, h.2.1, fun hn => by obtain ⟨b, off, e, _, hlt, hc⟩ := h.2.2 hn; exact ⟨b, off, e, hlt, hc⟩⟩
set_option maxRecDepth 100000 in
theorem RdHF.frm {w W : World} {S : Nat → Prop} {A : Option Addr} {n : Nat} {L : List (List UInt8)} (h : RdHF w S A n L) (hf : Frm S w W) : RdHF W S A n L :=
  ⟨h.1, h.2.1, fun hn => by
    obtain ⟨b, off, e, hS, hlt, hc⟩ := h.2.2 hn
    exact ⟨b, off, e, hS, Nat.lt_of_lt_of_le hlt hf.size, fun i hi j v hv => (hf.cell (p := ⟨b, off + i * 32 + j, none⟩) hlt hS).trans (hc i hi j v hv)⟩⟩
set_option maxRecDepth 100000 in
theorem RdHF.old {w W : World} {S : Nat → Prop} {A : Option Addr} {n : Nat} {L : List (List UInt8)} (h : RdH w A n L) (hb : Below w.heap.size w W) (hS : ∀ i, S i → w.heap.size ≤ i) : RdHF W S A n L :=
  ⟨h.1, h.2.1, fun hn => by
    obtain ⟨b, off, e, hlt, hc⟩ := h.2.2 hn
    exact ⟨b, off, e, fun hs => by have := hS b hs; omega, Nat.lt_of_lt_of_le hlt hb.size, fun i hi j v hv => (hb.cell (p := ⟨b, off + i * 32 + j, none⟩) hlt).trans (hc i hi j v hv)⟩⟩
set_option maxRecDepth 100000 in
theorem RdHF.own {w : World} {S : Nat → Prop} {base n c : Nat} {e : TypeId} {A : Option Addr} {L : List (List UInt8)} (h : OwnH w base e A n c L) (hS : ∀ i, S i → i < base) : RdHF w S A n L :=
  ⟨h.rd.1, h.rd.2.1, fun hn => by
    obtain ⟨b, off, e1, hlt, hc⟩ := h.rd.2.2 hn
    refine ⟨b, off, e1, fun hs => ?_, hlt, hc⟩
    rcases h.2.2.2 with ⟨_, h0⟩ | ⟨g, cap, cur, hv, hb, _⟩
    · omega
    · injection hv with e2
      rw [e1] at e2
      injection e2 with e3
      injection e3 with e4
      have := hS b hs
      omega⟩
/-- What the levels hand to a round. -/
def LevX (L : List (List UInt8)) (T : Nat → Prop) (k : Nat) (args : Array Value) (W : World) : Prop :=
  ∃ A n c, args = #[.slice A n c] ∧ RdHF W T A n (lev k L) ∧ n ≤ c ∧ c ≤ maxLen
set_option maxRecDepth 100000 in
theorem LevX.size {L : List (List UInt8)} {T : Nat → Prop} {k : Nat} {args : Array Value} {W : World} (h : LevX L T k args W) : args.size = 1 := by
  obtain ⟨A, n, c, rfl, _⟩ := h
  rfl
set_option maxRecDepth 100000 in
theorem LevX.frm {L : List (List UInt8)} {T : Nat → Prop} {k : Nat} {args : Array Value} {W W' : World} (h : LevX L T k args W) (hf : Frm T W W') : LevX L T k args W' := by
  obtain ⟨A, n, c, e, h1, h2⟩ := h
  exact ⟨A, n, c, e, h1.frm hf, h2⟩
def lenOf : Value → Nat
  | .slice _ n _ => n
  | _ => 0
set_option maxRecDepth 100000 in
theorem lev_abv' (l : List (List UInt8)) (k : Nat) : lev (k + 1) l = abv (lev k l) := rfl
set_option maxRecDepth 100000 in
theorem wide_64 (n : Nat) (h : n ≤ 64) : ∀ k, wide n k ≤ 64
  | 0 => h
  | k + 1 => by
    have := wide_64 n h k
    show (wide n k + 1) / 2 ≤ 64
    omega
set_option maxRecDepth 100000 in
theorem wide_end (n : Nat) : wide n (depth n) ≤ 1 := by
  by_cases h : 0 < n
  · rw [wide_one n h]; omega
  · obtain rfl : n = 0 := by omega
    rw [depth_small 0 (by omega)]
    show 0 ≤ 1
    omega
set_option maxRecDepth 100000 in
set_option maxHeartbeats 4000000 in
theorem levels_calls (A : Option Addr) (n c : Nat) (w : World) : Calls Tryd.prog 31 #[.slice A n c] w fun e w' => e = .returned (.func (.func 35) #[] #[.pointer (some ⟨w.heap.size, 0, none⟩)]) ∧ w' = w.alloc (.cells #[.slice A n c] 22) := by
  go_enter Tryd.func31, Tryd.ntmps31
  go_wp2
  go_ret
  exact ⟨rfl, rfl⟩
attribute [local go_sem] Oper.semAt_some
set_option maxRecDepth 100000 in
set_option maxHeartbeats 4000000 in
theorem levels_iter (f : Nat) (hf : 1 ≤ f) (A : Option Addr) (n c : Nat) (L : List (List UInt8)) (w0 w : World) (hr : RdH w0 A n L) (hT : Tab w0) (hn : n ≤ 64) (hc : n ≤ c) (hm : c ≤ maxLen) (hb : Below w0.heap.size w0 w) (Bl : Nat) (hBl : Bl < w.heap.size) (hcell : w.cell? ⟨Bl, 0, none⟩ = some (.slice A n c)) (S : Nat → Prop) (hS : ∀ i, S i → w0.heap.size ≤ i ∧ i < w.heap.size) :
    Iter Fence.wide f Tryd.prog 35 #[.pointer (some ⟨Bl, 0, none⟩)] w (depth n + 1) S (LevX L) := by
  intro l W1 I Ix hb1 hl0 hl hst hY h0
  have hln := hr.len
  have hcell1 : W1.cell? ⟨Bl, 0, none⟩ = some (.slice A n c) := (hb1.cell (p := ⟨Bl, 0, none⟩) hBl).trans hcell
  have hbs := hb.size
  have hb01 : Below w0.heap.size w0 W1 := hb.trans (hb1.mono hbs)
  obtain ⟨T, hTT⟩ : ∃ T : Nat → Prop, T = fun i => i = l ∨ S i := ⟨_, rfl⟩
  have hT0 : ∀ i, T i → w0.heap.size ≤ i := fun i hi => by rw [hTT] at hi; rcases hi with rfl | hi; omega; exact (hS i hi).1
  have hT1 : ∀ i, T i → i < W1.heap.size := fun i hi => by rw [hTT] at hi; have := hb1.size; rcases hi with rfl | hi; exact hl; have := (hS i hi).2; omega
  have hr1 : RdHF W1 T A n (lev 0 L) := RdHF.old hr hb01 hT0
  rw [← hTT] at hY
  obtain ⟨D, hD⟩ : ∃ D, D = depth n := ⟨_, rfl⟩
  have hw1 : ∀ k, k < D → 1 < wide n k := fun k hk => wide_more n k (by omega)
  have hw2 : wide n D ≤ 1 := by rw [hD]; exact wide_end n
  have hwl : ∀ k, (lev k L).length = wide n k := fun k => by rw [lev_len, hln]
  have hw64 : ∀ k, wide n k ≤ 64 := wide_64 n hn
  have CA : Hid (∀ (W : World) (A' : Option Addr) (n' c' : Nat) (l' : List (List UInt8)), Below w0.heap.size w0 W → RdH W A' n' l' → n' ≤ 64 → n' ≤ c' → c' ≤ maxLen → Calls Tryd.prog 22 #[.slice A' n' c'] W fun e w' => ∃ A2 c2, e = .returned (.slice A2 ((n' + 1) / 2) c2) ∧ OwnH w' W.heap.size 35 A2 ((n' + 1) / 2) c2 (abv l') ∧ Below W.heap.size W w') := Lib.hid fun W A' n' c' l' h1 h2 h3 h4 h5 => gaboveO_calls A' n' c' l' W h2 (hT.all h1) h3 h4 h5
  rw [← hD] at hY ⊢
  have HY := Lib.hid hY
  have HST := Lib.hid hst
  have HW := Lib.hid (And.intro hw1 (And.intro hw2 (And.intro hwl hw64)))
  have HT0 := Lib.hid hT0
  have HT1 := Lib.hid hT1
  clear hY hst hw1 hw2 hwl hw64 hT0 hT1 hTT hS hD hcell hr hT hb hBl hl0 hl hbs
  refine callsIn_of_wp Tryd.func35 rfl trivial ?_ rfl
  simp only [Tryd.ntmps35, List.size_toArray, List.length_cons, List.length_nil, Nat.reduceAdd, Nat.reduceSub, Array.replicate_succ, Array.replicate_zero, List.push_toArray, List.append_toArray, List.nil_append, List.cons_append]
  gi_wp2
  gi_loopw [3] (fun v wr => ∃ (k : Nat) (A' : Option Addr) (n' c' : Nat), v = .slice A' n' c' ∧ k ≤ D ∧ RdHF wr T A' n' (lev k L) ∧ n' ≤ c' ∧ c' ≤ maxLen ∧ I k wr ∧ Below w0.heap.size w0 wr ∧ W1.heap.size ≤ wr.heap.size) (fun v _ => lenOf v)
  case atStart =>
    exact ⟨0, A, n, c, rfl, Nat.zero_le _, hr1, hc, hm, h0, hb01, Nat.le_refl _⟩
  case round =>
    obtain ⟨k, A', n', c', rfl, hk, hrk, hc', hm', hI, hbw, hsz⟩ := hrel
    have hn' : n' = wide n k := by rw [← HW.out.2.2.1 k, hrk.1]
    obtain ⟨fn, tmps, assign, body, hy, hR⟩ := HY.out k #[.slice A' n' c'] wr (by omega) hI ⟨A', n', c', rfl, hrk, hc', hm'⟩
    have HR := Lib.hid hrk
    have HN := Lib.hid hn'
    clear hrk hn'
    by_cases hkD : k < D
    · have hgt : (1 : Int) < (n' : Int) := by have := HW.out.1 k hkD; have := HN.out; omega
      have hgn : 1 < n' := by omega
      have h64 : n' ≤ 64 := by rw [HN.out]; exact HW.out.2.2.2 k
      gi_wp2
      refine hR.mono ?_
      rintro e W3 (⟨rfl, hJ3, hk3⟩ | ⟨rfl, hJx3⟩)
      · have hr3 := HR.out.frm hk3
        have hb3 : Below w0.heap.size w0 W3 := hbw.trans (hk3.below hbw.size HT0.out)
        have hs3 := hk3.size
        have C1 := Lib.hid (CA.out W3 A' n' c' (lev k L) hb3 hr3.rd h64 hc' hm')
        gi_wp2_with (refine ⟨trivial, ?_⟩; gi_at_call 22; refine (callsIn_wide.2 C1.out).mono ?_; rintro e' w4 ⟨A2, c2, rfl, ho4, hb4⟩)
        go_roundw
        case rel =>
          refine ⟨k + 1, A2, _, c2, rfl, by omega, RdHF.own ho4 (fun i hi => by have := HT1.out i hi; omega), ho4.cap.1, ho4.cap.2, HST.out _ _ _ hJ3 (Frm.of_below hb4), hb3.trans (hb4.mono hb3.size), ?_⟩
          have := hb4.size
          omega
        case measure => show (n' + 1) / 2 < n'; omega
      · gi_wp2
        go_end0
        exact ⟨⟨_, rfl⟩, .inr hJx3⟩
    · have hkD' : k = D := by omega
      have hgt : ¬ (1 : Int) < (n' : Int) := by have := HW.out.2.1; have := HN.out; rw [hkD'] at this; omega
      subst hkD'
      gi_wp2
      refine hR.mono ?_
      rintro e W3 (⟨rfl, hJ3, hk3⟩ | ⟨rfl, hJx3⟩)
      · gi_wp2
        go_end0
        exact ⟨⟨_, rfl⟩, .inl hJ3⟩
      · gi_wp2
        go_end0
        exact ⟨⟨_, rfl⟩, .inr hJx3⟩
end Go.Proofs.YtnfcnjboeocnmaaDoor

/- Lists of hashes that are copied: an empty list, a list appended to another; steps that name the world behind. -/
namespace Go.Proofs.YtnfcnjboeocnmaaDoor
open Go.RowKit
set_option linter.unusedVariables false
set_option linter.unusedSimpArgs false

set_option maxRecDepth 100000 in
theorem run_bs0 (W : World) : (Instr.buildSlice 22 0 #[]).run Tryd.prog W = .ok (.slice (some ⟨W.heap.size, 0, none⟩) 0 0) (W.alloc (.cells #[] 35)) := by
  obtain ⟨i, hi, hzz⟩ := Option.map_eq_some_iff.1 infoG
  simp [Instr.buildSlice, run_underlying Tryd.underlying22, sizeOf, typeInfo, hi, Instr.fill, newRow]
  congr 2
  exact Array.eq_empty_of_size_eq_zero (by rw [Array.size_map, Array.size_range])
set_option maxRecDepth 100000 in
theorem frm_grownH {w w' : World} {A : Option Addr} {n c : Nat} (h : w.grownBy w' (Value.ownBlock (.slice A n c))) : Frm (fun i => blkOf A = some i) w w' :=
  ⟨h.os, h.tape, h.output, h.size, fun i hi hn => h.block i hi (fun e => hn (by
    cases A with
    | none => simp [Value.ownBlock] at e
    | some a => simp [Value.ownBlock] at e; simp [blkOf, e]))⟩
set_option maxRecDepth 100000 in
/-- An empty list is laid. -/
theorem wp_bs0 {o : Oper} {a : Act} {W : World} {K : Act → World → Prop} {Q : Exit → Act → World → Prop} (ho : o.op = .buildSlice 22 0 #[]) (base : Nat) (w : World) (hb : Below base w W) (hbase : base ≤ w.heap.size)
    (h : ∀ g w', OwnH w' base 35 (some ⟨g, 0, none⟩) 0 0 [] → W.heap.size ≤ g → g < w'.heap.size → Frm (fun _ => False) W w' → Below base w w' → K (a.put o.dst (.slice (some ⟨g, 0, none⟩) 0 0)) w') : o.wp Tryd.prog a W K Q := by
  unfold Oper.wp execOp
  simp only [ho, List.map_toArray, List.map_nil, Sem.run_bind, run_bs0, Result.andThen_ok]
  refine h W.heap.size _ ⟨rfl, fun _ h => by simp at h, rfl, .inr ⟨W.heap.size, 0, _, rfl, Nat.le_trans hbase hb.size, heap_alloc_new W _, Nat.zero_le _, by unfold maxLen; omega, rfl, rfl⟩⟩ (Nat.le_refl _) (by simp) (Frm.of_below ((Below.refl _ W).alloc (Nat.le_refl _) _)) (hb.alloc (Nat.le_trans hbase hb.size) _)
set_option maxRecDepth 100000 in
/-- A list of one hash is laid. -/
theorem wp_bs1 {o : Oper} {a : Act} {W : World} {K : Act → World → Prop} {Q : Exit → Act → World → Prop} (x : Operand) (ho : o.op = .buildSlice 22 1 #[(0, x)]) (V : List Value) (hx : a.eval x = .agg V.toArray) (hV : V.length = 32) (base : Nat) (w : World) (hb : Below base w W) (hbase : base ≤ w.heap.size)
    (h : ∀ g w', Blk w' g V 35 → W.heap.size ≤ g → g < w'.heap.size → Frm (fun _ => False) W w' → Below base w w' → K (a.put o.dst (.slice (some ⟨g, 0, none⟩) 1 1)) w') : o.wp Tryd.prog a W K Q := by
  unfold Oper.wp execOp
  simp only [ho, List.map_toArray, List.map_cons, List.map_nil, hx, Sem.run_bind, run_bs 22 35 Tryd.underlying22 infoG V hV W, Result.andThen_ok]
  exact h W.heap.size _ (Blk.new W _ _) (Nat.le_refl _) (by simp) (Frm.of_below ((Below.refl _ W).alloc (Nat.le_refl _) _)) (hb.alloc (Nat.le_trans hbase hb.size) _)
set_option maxRecDepth 100000 in
theorem flat_cells {w : World} {X : Option Addr} {m : Nat} {L : List (List UInt8)} (hr : RdH w X m L) (hm : 0 < m) : ∃ ad, X = some ad ∧ ad.spot = none ∧ ∀ j u, (L.flatten.map B8)[j]? = some u → w.cell? (ad.add j) = some u := by
  obtain ⟨b, off, rfl, hb, hc⟩ := hr.2.2 hm
  refine ⟨_, rfl, rfl, fun j u hu => ?_⟩
  have hj : j < m * 32 := by have := (List.getElem?_eq_some_iff.1 hu).1; rw [List.length_map, flat_len L hr.all, hr.len] at this; exact this
  have e : j = j / 32 * 32 + j % 32 := by omega
  rw [Addr.add_mid]
  have h2 := hc (j / 32) (by omega) (j % 32) u (by
    rw [List.getElem?_map, ← flat_at L (j / 32) (j % 32) hr.all (by rw [hr.len]; omega) (Nat.mod_lt _ (by omega)), ← e, ← List.getElem?_map]
    exact hu)
  rw [Nat.add_assoc, ← e] at h2
  exact h2
set_option maxRecDepth 100000 in
/-- append of a list of hashes. -/
theorem wp_appHs {o : Oper} {a : Act} {W : World} {K : Act → World → Prop} {Q : Exit → Act → World → Prop} (s x : Operand) (ho : o.op = .call { callee := .builtin .append, args := #[s, x], argTypes := #[22, 22] })
    (base : Nat) (w : World) (hb : Below base w W) (hbase : base ≤ w.heap.size) (A : Option Addr) (n c : Nat) (L : List (List UInt8)) (hs : a.eval s = .slice A n c) (hown : OwnH W base 35 A n c L) (X : Option Addr) (m c2 : Nat) (L2 : List (List UInt8)) (hx : a.eval x = .slice X m c2) (hr : RdH W X m L2) (hm : 0 < m)
    (hn : n + m ≤ 1000000) (h : ∀ A' c' w', OwnH w' base 35 A' (n + m) c' (L ++ L2) → Frm (fun i => blkOf A = some i) W w' → Below base w w' → K (a.put o.dst (.slice A' (n + m) c')) w') : o.wp Tryd.prog a W K Q := by
  obtain ⟨i, hi, hzz⟩ := Option.map_eq_some_iff.1 infoG
  simp only [Prod.mk.injEq] at hzz
  obtain ⟨hz, hsz, hby⟩ := hzz
  obtain ⟨h1, h2, h3⟩ := hown
  have hbW : base ≤ W.heap.size := Nat.le_trans hbase hb.size
  obtain ⟨ad, rfl, _, hcells⟩ := flat_cells hr hm
  obtain ⟨v', w', hrun, h4, h5, _, _⟩ := run_append_own_at (P := Tryd.prog) W base 22 o.type 35 i (.agg z32.toArray) 32 32 Tryd.underlying22 hi hz hsz hby rfl (by omega) _ n _ h3 ad m c2 (L2.flatten.map B8) (by rw [List.length_map, flat_len L2 hr.all, hr.len]) hcells (b8_one _) (by unfold maxLen; omega) (by omega) hbW
  obtain ⟨A', c', rfl⟩ : ∃ A' c', v' = .slice A' (n + m) c' := by
    rcases h4.2 with ⟨_, h0⟩ | ⟨g', cap, cur, rfl, _⟩
    · omega
    · exact ⟨_, _, rfl⟩
  have hblk : ∀ k, Value.ownBlock (.slice A n c) = some k → base ≤ k := fun k hk => by
    rcases h3.2 with ⟨hv, _⟩ | ⟨g', cap, cur, hv, hb', _⟩
    · injection hv with e1; rw [e1] at hk; simp [Value.ownBlock] at hk
    · injection hv with e1
      rw [e1] at hk
      have : g' = k := by simpa [Value.ownBlock] using hk
      omega
  unfold Oper.wp execOp
  simp only [ho, resolve, invoke, builtin, Sem.run_bind, Sem.run_pure, Result.andThen_ok, List.map_toArray, List.map_cons, List.map_nil, hs, hx, hrun]
  refine h A' c' w' ⟨by simp [h1, hr.len], fun y hy => ?_, ?_⟩ (frm_grownH h5) (hb.trans ((Below.refl _ _).grown h5 hbW hblk))
  · rcases List.mem_append.1 hy with hy | hy
    · exact h2 y hy
    · exact hr.all y hy
  · rw [List.flatten_append, List.map_append]
    exact h4
set_option maxRecDepth 100000 in
theorem OwnH.frm {w W : World} {b n c : Nat} {e : TypeId} {A : Option Addr} {L : List (List UInt8)} {S : Nat → Prop} (h : OwnH w b e A n c L) (hf : Frm S w W) (hS : ∀ g, blkOf A = some g → ¬ S g) : OwnH W b e A n c L := by
  obtain ⟨h1, h2, h3, h4⟩ := h
  refine ⟨h1, h2, h3, ?_⟩
  rcases h4 with h | ⟨g, cap, cur, e1, e2, e3, e4⟩
  · exact .inl h
  · have hA : blkOf A = some g := by injection e1 with e5; rw [e5]; rfl
    exact .inr ⟨g, cap, cur, e1, e2, (hf.block g (Array.getElem?_eq_some_iff.1 e3).1 (hS g hA)).trans e3, e4⟩
set_option maxRecDepth 100000 in
theorem RdH.belowB {w W : World} {B : Nat} {A : Option Addr} {n : Nat} {L : List (List UInt8)} (h : RdH w A n L) (hB : w.heap.size = B) (hb : Below B w W) : RdH W A n L := h.below (hB ▸ hb)
set_option maxRecDepth 100000 in
theorem RdH.oneV {W : World} {g : Nat} {a : List UInt8} {V : List Value} {e : TypeId} (ha : a.length = 32) (hV : V = a.map B8) (hb : Blk W g V e) : RdH W (some ⟨g, 0, none⟩) 1 [a] :=
  ⟨rfl, fun h hh => by simp at hh; rw [hh]; exact ha, fun _ => ⟨g, 0, rfl, hb.lt, fun i hi j v hv => by
    have : i = 0 := by omega
    subst this
    rw [hb.cell, hV]
    simpa [hat] using hv⟩⟩
end Go.Proofs.YtnfcnjboeocnmaaDoor
