/- Merged texts: ClaZ. -/
import Derived.Test.YtpoinhjkdgcnaaaDoorMbi
import Derived.Test.YtpoinhjkdgcnaaaDoorMbt
/- The walk of ClashInner over what package clash is to answer. -/
namespace Go.Proofs.YtpoinhjkdgcnaaaDoor
open Go.RowKit
set_option linter.unusedVariables false
set_option linter.unusedSimpArgs false

set_option maxRecDepth 100000 in
theorem Z5c : (Tryd.prog.info? 28).map (·.zero) = some (some (.agg #[.slice none 0 0, .slice none 0 0, .int .i64 0, .int .i64 0, .slice none 0 0])) := by kernel_rfl
set_option maxRecDepth 100000 in
theorem I5c : (Tryd.prog.info? 28).map (·.size) = some 5 := by kernel_rfl
set_option maxRecDepth 100000 in
/-- What holds bytes is no block without them. -/
theorem rd_ne {w : World} {A : Option Addr} {n g : Nat} {l : List UInt8} {cs : List Value} {t : TypeId} (h : Rd w A n l) (hb : Blk w g cs t) (hc : ∀ v ∈ cs, ∀ z : Int, v ≠ .int .u8 z) : ∀ b off, A = some ⟨b, off, none⟩ → 0 < n → b ≠ g := fun b off e hn hbg => by
  obtain ⟨b', off', e', hlt, hr⟩ := h.2 hn
  rw [e] at e'
  injection e' with e'
  obtain ⟨rfl, rfl⟩ : b = b' ∧ off = off' := by injection e' with q1 q2; exact ⟨q1, q2⟩
  have h0 := hr 0 (by have := h.1; omega)
  rw [hbg, hb.cell] at h0
  exact hc _ (List.mem_of_getElem? h0) _ rfl
set_option maxRecDepth 100000 in
theorem Rd.only {w w2 : World} {A : Option Addr} {n g : Nat} {l : List UInt8} (h : Rd w A n l) (ho : Only g w w2) (hne : ∀ b off, A = some ⟨b, off, none⟩ → 0 < n → b ≠ g) : Rd w2 A n l :=
  ⟨h.1, fun hn => by
    obtain ⟨b, off, e, hlt, hr⟩ := h.2 hn
    exact ⟨b, off, e, by rw [ho.size]; exact hlt, fun j hj => (World.cell?_of_block (a := ⟨b, off + j, none⟩) (ho.block b (hne b off e hn))).trans (hr j hj)⟩⟩
set_option maxRecDepth 100000 in
theorem rdH_ne {w : World} {A : Option Addr} {n g : Nat} {L : List (List UInt8)} {cs : List Value} {t : TypeId} (h : RdH w A n L) (hb : Blk w g cs t) (hc : ∀ v ∈ cs, ∀ z : Int, v ≠ .int .u8 z) : ∀ b off, A = some ⟨b, off, none⟩ → 0 < n → b ≠ g := fun b off e hn hbg => by
  obtain ⟨b', off', e', hlt, hr⟩ := h.2.2 hn
  rw [e] at e'
  injection e' with e'
  obtain ⟨rfl, rfl⟩ : b = b' ∧ off = off' := by injection e' with q1 q2; exact ⟨q1, q2⟩
  have h32 := hat_32 h.all (i := 0) (by rw [h.len]; exact hn)
  have hv : ((hat L 0).map B8)[0]? = some (B8 ((hat L 0)[0]'(by omega))) := by rw [List.getElem?_map, List.getElem?_eq_getElem (by omega)]; rfl
  have h0 := hr 0 hn 0 _ hv
  rw [hbg, hb.cell] at h0
  exact hc _ (List.mem_of_getElem? h0) _ rfl
set_option maxRecDepth 100000 in
theorem RdH.only {w w2 : World} {A : Option Addr} {n g : Nat} {L : List (List UInt8)} (h : RdH w A n L) (ho : Only g w w2) (hne : ∀ b off, A = some ⟨b, off, none⟩ → 0 < n → b ≠ g) : RdH w2 A n L :=
  ⟨h.1, h.2.1, fun hn => by
    obtain ⟨b, off, e, hlt, hr⟩ := h.2.2 hn
    exact ⟨b, off, e, by rw [ho.size]; exact hlt, fun i hi j v hv => (World.cell?_of_block (a := ⟨b, off + i * 32 + j, none⟩) (ho.block b (hne b off e hn))).trans (hr i hi j v hv)⟩⟩
section
variable {ops : Array Oper} {rest : List Oper} {o : Oper} {a : Act} {W : World} {Q : Exit → Act → World → Prop}
set_option maxRecDepth 100000 in
theorem wpList_storeC (hgd : o.guard = none) (ty : TypeId) (x y : Operand) (ho : o.op = .store ty x y) (g off : Nat) (v : Value) (cs : List Value) (t : TypeId) (hx : a.eval x = .pointer (some ⟨g, off, none⟩)) (hy : a.eval y = v)
    (hb : Blk W g cs t) (hoff : off < cs.length) (hi : (Tryd.prog.info? ty).map (·.size) = some 1) (h1 : v.oneCell' = true) (hc : v.cells = #[v]) (h : ∀ w2, Blk w2 g (cs.set off v) t → Only g W w2 → wpList Tryd.prog ops Q rest (a.put o.dst undef) w2) : wpList Tryd.prog ops Q (o :: rest) a W :=
  wpList_plain hgd fun _ hK => wp_storeC ty x y ho g off v cs t hx hy hb hoff hi h1 hc (fun w2 k1 k2 => hK _ _ (h w2 k1 k2))
set_option maxRecDepth 100000 in
/-- A part of a struct is stored. -/
theorem wpList_storeP (hgd : o.guard = none) (ty : TypeId) (x y : Operand) (ho : o.op = .store ty x y) (g off : Nat) (cells cs : List Value) (t : TypeId) (hx : a.eval x = .pointer (some ⟨g, off, none⟩)) (hy : a.eval y = .agg cells.toArray)
    (hb : Blk W g cs t) (hoff : off + cells.length ≤ cs.length) (hi : (Tryd.prog.info? ty).map (·.size) = some cells.length) (h1 : ∀ v ∈ cells, v.oneCell' = true) (h : ∀ w2, Blk w2 g (over cs off cells) t → Only g W w2 → wpList Tryd.prog ops Q rest (a.put o.dst undef) w2) : wpList Tryd.prog ops Q (o :: rest) a W := by
  refine wpList_store_mid hgd ty x y ho g off cells.toArray hx hy (hb.there off _ (by rw [List.size_toArray]; omega)) (by rw [List.size_toArray]; exact hi) (all_oneCell_toArray h1) ?_
  exact h _ (Blk.setCells cells W cs off hb hoff) (Only.setCells _ _ _ _ (Only.refl g W))
end
set_option maxRecDepth 100000 in
set_option maxHeartbeats 4000000 in
theorem clashInner_asleep (AL : Option Addr) (n cL : Nat) (T : List (List UInt8)) (w : World) (CA : Hid (∀ W, Below w.heap.size w W → Calls Tryd.prog 9 #[] W (Ret W (.bool true)))) (CS : Hid (∀ W, Below w.heap.size w W → Calls Tryd.prog 8 #[.agg #[.slice AL n cL, .slice none 0 0, .int .i64 0, .int .i64 0, .slice none 0 0]] W (Ret W (.bool false))))  : Calls Tryd.prog 7 #[.slice AL n cL] w (Ret w (.bool true)) := by
  have BRC : ∀ W, (Instr.build 28 #[(0, .slice AL n cL)]).run Tryd.prog W = .ok (.agg #[.slice AL n cL, .slice none 0 0, .int .i64 0, .int .i64 0, .slice none 0 0]) W := fun W => run_build W _ _ _ (by kernel_rfl)
  go_enter Tryd.func7, Tryd.ntmps7
  go_upto_region 2 with (first
    | ((with_reducible refine at_bldZ 28 #[(0, .tmp 9)] ?_); refine wpList_bld rfl 28 #[(0, .tmp 9)] rfl #[(0, .slice AL n cL)] (.agg #[.slice AL n cL, .slice none 0 0, .int .i64 0, .int .i64 0, .slice none 0 0]) (by first | rfl | simp [Act.eval]) BRC ?_)
    | ((with_reducible refine at_alloc 28 ?_); refine wpList_allocT rfl 28 [.slice none 0 0, .slice none 0 0, .int .i64 0, .int .i64 0, .slice none 0 0] Z5c rfl w.heap.size w (Below.refl _ _) (Nat.le_refl _) ?_; intro g3 x0 hb0 hg3 hl0 hf0 hB0)
    | ((with_reducible refine at_store 28 (.tmp 3) (.tmp 10) ?_); refine wpList_store_blk rfl 28 (.tmp 3) (.tmp 10) rfl g3 [.slice none 0 0, .slice none 0 0, .int .i64 0, .int .i64 0, .slice none 0 0] [.slice AL n cL, .slice none 0 0, .int .i64 0, .int .i64 0, .slice none 0 0] 28 rfl rfl hb0 rfl I5c (by simp [Value.oneCell']) ?_; intro x1 hk1 ho1))
  have hB1 : Below w.heap.size w x1 := hB0.trans (ho1.below (by omega))
  clear hb0 hf0 hB0 ho1
  go_wp2_with (first
    | ((with_reducible refine at_load 28 (.tmp 3) ?_); refine wpList_load_mid rfl 28 (.tmp 3) rfl g3 0 (by first | rfl | simp [Act.eval]) [.slice AL n cL, .slice none 0 0, .int .i64 0, .int .i64 0, .slice none 0 0] _ (Blk.range hk1) Tryd.underlying28 rfl I5c ?_)
    | (go_at_call 8; refine (CS.out _ hB1).mono ?_; rintro e' x2 ⟨rfl, d2⟩; have hB2 := below_more hB1 d2; have KA := hB2)
    | (go_at_call 9; refine (CA.out _ KA).mono ?_; rintro e' v9 ⟨rfl, d9⟩))
  go_ret
  exact ⟨rfl, below_more KA d9⟩
set_option maxRecDepth 100000 in
set_option maxHeartbeats 4000000 in
theorem clashInner_less (AL : Option Addr) (n cL : Nat) (T : List (List UInt8)) (w : World) (CA : Hid (∀ W, Below w.heap.size w W → Calls Tryd.prog 9 #[] W (Ret W (.bool true)))) (CS : Hid (∀ W, Below w.heap.size w W → Calls Tryd.prog 8 #[.agg #[.slice AL n cL, .slice none 0 0, .int .i64 0, .int .i64 0, .slice none 0 0]] W (Ret W (.bool true)))) (h1 : (n : Int) < 3) : Calls Tryd.prog 7 #[.slice AL n cL] w (Ret w (.bool true)) := by
  have BRC : ∀ W, (Instr.build 28 #[(0, .slice AL n cL)]).run Tryd.prog W = .ok (.agg #[.slice AL n cL, .slice none 0 0, .int .i64 0, .int .i64 0, .slice none 0 0]) W := fun W => run_build W _ _ _ (by kernel_rfl)
  go_enter Tryd.func7, Tryd.ntmps7
  go_upto_region 2 with (first
    | ((with_reducible refine at_bldZ 28 #[(0, .tmp 9)] ?_); refine wpList_bld rfl 28 #[(0, .tmp 9)] rfl #[(0, .slice AL n cL)] (.agg #[.slice AL n cL, .slice none 0 0, .int .i64 0, .int .i64 0, .slice none 0 0]) (by first | rfl | simp [Act.eval]) BRC ?_)
    | ((with_reducible refine at_alloc 28 ?_); refine wpList_allocT rfl 28 [.slice none 0 0, .slice none 0 0, .int .i64 0, .int .i64 0, .slice none 0 0] Z5c rfl w.heap.size w (Below.refl _ _) (Nat.le_refl _) ?_; intro g3 x0 hb0 hg3 hl0 hf0 hB0)
    | ((with_reducible refine at_store 28 (.tmp 3) (.tmp 10) ?_); refine wpList_store_blk rfl 28 (.tmp 3) (.tmp 10) rfl g3 [.slice none 0 0, .slice none 0 0, .int .i64 0, .int .i64 0, .slice none 0 0] [.slice AL n cL, .slice none 0 0, .int .i64 0, .int .i64 0, .slice none 0 0] 28 rfl rfl hb0 rfl I5c (by simp [Value.oneCell']) ?_; intro x1 hk1 ho1))
  have hB1 : Below w.heap.size w x1 := hB0.trans (ho1.below (by omega))
  clear hb0 hf0 hB0 ho1
  go_wp2_with (first
    | ((with_reducible refine at_load 28 (.tmp 3) ?_); refine wpList_load_mid rfl 28 (.tmp 3) rfl g3 0 (by first | rfl | simp [Act.eval]) [.slice AL n cL, .slice none 0 0, .int .i64 0, .int .i64 0, .slice none 0 0] _ (Blk.range hk1) Tryd.underlying28 rfl I5c ?_)
    | (go_at_call 8; refine (CS.out _ hB1).mono ?_; rintro e' x2 ⟨rfl, d2⟩; have hB2 := below_more hB1 d2; have KA := hB2)
    | (go_at_call 9; refine (CA.out _ KA).mono ?_; rintro e' v9 ⟨rfl, d9⟩))
  go_ret
  exact ⟨rfl, below_more KA d9⟩
set_option maxRecDepth 100000 in
set_option maxHeartbeats 4000000 in
theorem clashInner_more (AL : Option Addr) (n cL : Nat) (T : List (List UInt8)) (w : World) (CA : Hid (∀ W, Below w.heap.size w W → Calls Tryd.prog 9 #[] W (Ret W (.bool true)))) (CS : Hid (∀ W, Below w.heap.size w W → Calls Tryd.prog 8 #[.agg #[.slice AL n cL, .slice none 0 0, .int .i64 0, .int .i64 0, .slice none 0 0]] W (Ret W (.bool true)))) (h1 : ¬ (n : Int) < 3) (h2 : (4 : Int) < (n : Int)) : Calls Tryd.prog 7 #[.slice AL n cL] w (Ret w (.bool true)) := by
  have BRC : ∀ W, (Instr.build 28 #[(0, .slice AL n cL)]).run Tryd.prog W = .ok (.agg #[.slice AL n cL, .slice none 0 0, .int .i64 0, .int .i64 0, .slice none 0 0]) W := fun W => run_build W _ _ _ (by kernel_rfl)
  go_enter Tryd.func7, Tryd.ntmps7
  go_upto_region 2 with (first
    | ((with_reducible refine at_bldZ 28 #[(0, .tmp 9)] ?_); refine wpList_bld rfl 28 #[(0, .tmp 9)] rfl #[(0, .slice AL n cL)] (.agg #[.slice AL n cL, .slice none 0 0, .int .i64 0, .int .i64 0, .slice none 0 0]) (by first | rfl | simp [Act.eval]) BRC ?_)
    | ((with_reducible refine at_alloc 28 ?_); refine wpList_allocT rfl 28 [.slice none 0 0, .slice none 0 0, .int .i64 0, .int .i64 0, .slice none 0 0] Z5c rfl w.heap.size w (Below.refl _ _) (Nat.le_refl _) ?_; intro g3 x0 hb0 hg3 hl0 hf0 hB0)
    | ((with_reducible refine at_store 28 (.tmp 3) (.tmp 10) ?_); refine wpList_store_blk rfl 28 (.tmp 3) (.tmp 10) rfl g3 [.slice none 0 0, .slice none 0 0, .int .i64 0, .int .i64 0, .slice none 0 0] [.slice AL n cL, .slice none 0 0, .int .i64 0, .int .i64 0, .slice none 0 0] 28 rfl rfl hb0 rfl I5c (by simp [Value.oneCell']) ?_; intro x1 hk1 ho1))
  have hB1 : Below w.heap.size w x1 := hB0.trans (ho1.below (by omega))
  clear hb0 hf0 hB0 ho1
  go_wp2_with (first
    | ((with_reducible refine at_load 28 (.tmp 3) ?_); refine wpList_load_mid rfl 28 (.tmp 3) rfl g3 0 (by first | rfl | simp [Act.eval]) [.slice AL n cL, .slice none 0 0, .int .i64 0, .int .i64 0, .slice none 0 0] _ (Blk.range hk1) Tryd.underlying28 rfl I5c ?_)
    | (go_at_call 8; refine (CS.out _ hB1).mono ?_; rintro e' x2 ⟨rfl, d2⟩; have hB2 := below_more hB1 d2; have KA := hB2)
    | (go_at_call 9; refine (CA.out _ KA).mono ?_; rintro e' v9 ⟨rfl, d9⟩))
  go_ret
  exact ⟨rfl, below_more KA d9⟩
set_option maxRecDepth 100000 in
set_option maxHeartbeats 4000000 in
theorem clashInner_doubled (AL : Option Addr) (n cL : Nat) (T : List (List UInt8)) (w : World) (CA : Hid (∀ W, Below w.heap.size w W → Calls Tryd.prog 9 #[] W (Ret W (.bool true)))) (CS : Hid (∀ W, Below w.heap.size w W → Calls Tryd.prog 8 #[.agg #[.slice AL n cL, .slice none 0 0, .int .i64 0, .int .i64 0, .slice none 0 0]] W (Ret W (.bool true)))) (h1 : ¬ (n : Int) < 3) (h2 : ¬ (4 : Int) < (n : Int)) (SU : Hid (∀ W, Below w.heap.size w W → Calls Tryd.prog 22 #[.slice AL n cL] W fun e w' => ∃ A' c', e = .returned (.slice A' n c') ∧ RdH w' A' n (sums T) ∧ n ≤ c' ∧ c' ≤ maxLen ∧ Below W.heap.size W w')) (DB : Hid (∀ (W : World) (A' : Option Addr) (c' : Nat), Below w.heap.size w W → RdH W A' n (sums T) → n ≤ c' → c' ≤ maxLen → Calls Tryd.prog 23 #[.slice A' n c'] W (Ret W (.bool true)))) : Calls Tryd.prog 7 #[.slice AL n cL] w (Ret w (.bool true)) := by
  have BRC : ∀ W, (Instr.build 28 #[(0, .slice AL n cL)]).run Tryd.prog W = .ok (.agg #[.slice AL n cL, .slice none 0 0, .int .i64 0, .int .i64 0, .slice none 0 0]) W := fun W => run_build W _ _ _ (by kernel_rfl)
  go_enter Tryd.func7, Tryd.ntmps7
  go_upto_region 2 with (first
    | ((with_reducible refine at_bldZ 28 #[(0, .tmp 9)] ?_); refine wpList_bld rfl 28 #[(0, .tmp 9)] rfl #[(0, .slice AL n cL)] (.agg #[.slice AL n cL, .slice none 0 0, .int .i64 0, .int .i64 0, .slice none 0 0]) (by first | rfl | simp [Act.eval]) BRC ?_)
    | ((with_reducible refine at_alloc 28 ?_); refine wpList_allocT rfl 28 [.slice none 0 0, .slice none 0 0, .int .i64 0, .int .i64 0, .slice none 0 0] Z5c rfl w.heap.size w (Below.refl _ _) (Nat.le_refl _) ?_; intro g3 x0 hb0 hg3 hl0 hf0 hB0)
    | ((with_reducible refine at_store 28 (.tmp 3) (.tmp 10) ?_); refine wpList_store_blk rfl 28 (.tmp 3) (.tmp 10) rfl g3 [.slice none 0 0, .slice none 0 0, .int .i64 0, .int .i64 0, .slice none 0 0] [.slice AL n cL, .slice none 0 0, .int .i64 0, .int .i64 0, .slice none 0 0] 28 rfl rfl hb0 rfl I5c (by simp [Value.oneCell']) ?_; intro x1 hk1 ho1))
  have hB1 : Below w.heap.size w x1 := hB0.trans (ho1.below (by omega))
  clear hb0 hf0 hB0 ho1
  go_wp2_with (first
    | ((with_reducible refine at_load 28 (.tmp 3) ?_); refine wpList_load_mid rfl 28 (.tmp 3) rfl g3 0 (by first | rfl | simp [Act.eval]) [.slice AL n cL, .slice none 0 0, .int .i64 0, .int .i64 0, .slice none 0 0] _ (Blk.range hk1) Tryd.underlying28 rfl I5c ?_)
    | (go_at_call 8; refine (CS.out _ hB1).mono ?_; rintro e' x2 ⟨rfl, d2⟩; have hB2 := below_more hB1 d2; have KA := hB2)
    | (go_at_call 22; refine (SU.out _ hB2).mono ?_; rintro e' x3 ⟨A6, c6, rfl, hr6, hc6, hm6, d3⟩; have hB3 := below_more hB2 d3)
    | (go_at_call 23; refine (DB.out _ A6 c6 hB3 hr6 hc6 hm6).mono ?_; rintro e' x4 ⟨rfl, d4⟩; have hB4 := below_more hB3 d4; have KA := hB4)
    | (go_at_call 9; refine (CA.out _ KA).mono ?_; rintro e' v9 ⟨rfl, d9⟩))
  go_ret
  exact ⟨rfl, below_more KA d9⟩
set_option maxRecDepth 100000 in
set_option maxHeartbeats 4000000 in
theorem clashInner_walk (AL : Option Addr) (n cL N : Nat) (T B : List (List UInt8)) (x u0 u1 : List UInt8) (RV XV : List Value) (w : World) (CA : Hid (∀ W, Below w.heap.size w W → Calls Tryd.prog 9 #[] W (Ret W (.bool true)))) (CS : Hid (∀ W, Below w.heap.size w W → Calls Tryd.prog 8 #[.agg #[.slice AL n cL, .slice none 0 0, .int .i64 0, .int .i64 0, .slice none 0 0]] W (Ret W (.bool true)))) (h1 : ¬ (n : Int) < 3) (h2 : ¬ (4 : Int) < (n : Int)) (SU : Hid (∀ W, Below w.heap.size w W → Calls Tryd.prog 22 #[.slice AL n cL] W fun e w' => ∃ A' c', e = .returned (.slice A' n c') ∧ RdH w' A' n (sums T) ∧ n ≤ c' ∧ c' ≤ maxLen ∧ Below W.heap.size W w')) (DB : Hid (∀ (W : World) (A' : Option Addr) (c' : Nat), Below w.heap.size w W → RdH W A' n (sums T) → n ≤ c' → c' ≤ maxLen → Calls Tryd.prog 23 #[.slice A' n c'] W (Ret W (.bool false)))) (GT : Hid (∀ W, Below w.heap.size w W → Calls Tryd.prog 11 #[.slice AL n cL] W fun e w' => ∃ A' c', e = .returned (.slice A' N c') ∧ RdM w' A' N B ∧ Below W.heap.size W w')) (AB : Hid (∀ (W : World) (A' : Option Addr) (c' : Nat), Below w.heap.size w W → RdH W A' n (sums T) → n ≤ c' → c' ≤ maxLen → Calls Tryd.prog 24 #[.slice A' n c'] W fun e w' => ∃ A5 c5, e = .returned (.slice A5 2 c5) ∧ RdH w' A5 2 [u0, u1] ∧ Below W.heap.size W w')) (RT : Hid (∀ (W : World) (A' : Option Addr) (c' : Nat), Below w.heap.size w W → RdH W A' n (sums T) → n ≤ c' → c' ≤ maxLen → Calls Tryd.prog 21 #[.slice A' n c'] W (Ret W (.agg RV.toArray)))) (CT2 : Hid (∀ (W : World) (g : Nat), Below w.heap.size w W → RdM W (some ⟨g, 0, none⟩) 1 [x] → Calls Tryd.prog 19 #[.slice (some ⟨g, 0, none⟩) 1 1] W (Ret W (.agg XV.toArray)))) (CK : Hid (u0 ≠ u1 → ∀ (W : World) (g9 : Nat), Below w.heap.size w W → RdH W (some ⟨g9, 0, none⟩) 1 [u1] → Calls Tryd.prog 20 #[.agg #[.int .i64 2, .int .i64 0, .slice (some ⟨g9, 0, none⟩) 1 1], .agg RV.toArray, .agg XV.toArray] W (Ret W (.int .i64 0)))) (GE : Hid (∀ (W : World) (A3 : Option Addr) (m3 c3 g9 : Nat), Below w.heap.size w W → Rd W A3 m3 x → m3 ≤ c3 → c3 ≤ maxLen → RdH W (some ⟨g9, 0, none⟩) 1 [u1] → Calls Tryd.prog 17 #[.slice AL n cL, .slice A3 m3 c3, .agg #[.int .i64 2, .int .i64 0, .slice (some ⟨g9, 0, none⟩) 1 1]] W fun e w' => ∃ A1 n1 c1 A2 n2 c2 a b ok, e = .returned (.tuple #[.slice A1 n1 c1, .slice A2 n2 c2, .bool ok]) ∧ (ok = true → a ≠ b) ∧ Rd w' A1 n1 a ∧ Rd w' A2 n2 b ∧ Below W.heap.size W w')) (hN : N = n + 3) (HB : Hid (hat B n = x)) (h0 : u0.length = 32) (h1' : u1.length = 32) : Calls Tryd.prog 7 #[.slice AL n cL] w (Ret w (.bool true)) := by
  have u5 : IntKind.i64.wrap ((n : Int) + 3) = (N : Int) := by rw [IntKind.wrap_i64]; omega
  have hnN : (n : Int) < (N : Int) := by omega
  have hnN' : n < N := by omega
  obtain ⟨U0, hU0⟩ : ∃ V, V = u0.map B8 := ⟨_, rfl⟩
  obtain ⟨U1, hU1⟩ : ∃ V, V = u1.map B8 := ⟨_, rfl⟩
  have IU0 : Hid ((Tryd.prog.info? 47).map (·.size) = some U0.length) := Lib.hid (by rw [hU0, List.length_map, h0]; kernel_rfl)
  have IU1 : Hid ((Tryd.prog.info? 47).map (·.size) = some U1.length) := Lib.hid (by rw [hU1, List.length_map, h1']; kernel_rfl)
  have LU1 : Hid (U1.length = 32) := Lib.hid (by rw [hU1, List.length_map, h1'])
  have HU1 := Lib.hid hU1
  have HU32 := Lib.hid h1'
  obtain ⟨E, hE⟩ : ∃ b, b = decide (u0 = u1) := ⟨_, rfl⟩
  have heq : ∀ W, (Op.equalIn 10000 47 (.agg U0.toArray) (.agg U1.toArray)).run Tryd.prog W = .ok E W := fun W => by rw [hU0, hU1]; exact eqG32 u0 u1 h0 h1' E hE.symm W
  have HE := Lib.hid hE
  have HUU : Hid (hat [u0, u1] 0 = u0 ∧ hat [u0, u1] 1 = u1 ∧ U0 = u0.map B8) := Lib.hid ⟨rfl, rfl, hU0⟩
  clear hN hU0 hU1 h0 h1' hE
  have BRC : ∀ W, (Instr.build 28 #[(0, .slice AL n cL)]).run Tryd.prog W = .ok (.agg #[.slice AL n cL, .slice none 0 0, .int .i64 0, .int .i64 0, .slice none 0 0]) W := fun W => run_build W _ _ _ (by kernel_rfl)
  go_enter Tryd.func7, Tryd.ntmps7
  go_upto_region 2 with (first
    | ((with_reducible refine at_bldZ 28 #[(0, .tmp 9)] ?_); refine wpList_bld rfl 28 #[(0, .tmp 9)] rfl #[(0, .slice AL n cL)] (.agg #[.slice AL n cL, .slice none 0 0, .int .i64 0, .int .i64 0, .slice none 0 0]) (by first | rfl | simp [Act.eval]) BRC ?_)
    | ((with_reducible refine at_alloc 28 ?_); refine wpList_allocT rfl 28 [.slice none 0 0, .slice none 0 0, .int .i64 0, .int .i64 0, .slice none 0 0] Z5c rfl w.heap.size w (Below.refl _ _) (Nat.le_refl _) ?_; intro g3 x0 hb0 hg3 hl0 hf0 hB0)
    | ((with_reducible refine at_store 28 (.tmp 3) (.tmp 10) ?_); refine wpList_store_blk rfl 28 (.tmp 3) (.tmp 10) rfl g3 [.slice none 0 0, .slice none 0 0, .int .i64 0, .int .i64 0, .slice none 0 0] [.slice AL n cL, .slice none 0 0, .int .i64 0, .int .i64 0, .slice none 0 0] 28 rfl rfl hb0 rfl I5c (by simp [Value.oneCell']) ?_; intro x1 hk1 ho1))
  have hB1 : Below w.heap.size w x1 := hB0.trans (ho1.below (by omega))
  clear hb0 hf0 hB0 ho1
  go_upto_region 8 with (first
    | ((with_reducible refine at_load 28 (.tmp 3) ?_); refine wpList_load_mid rfl 28 (.tmp 3) rfl g3 0 (by first | rfl | simp [Act.eval]) [.slice AL n cL, .slice none 0 0, .int .i64 0, .int .i64 0, .slice none 0 0] _ (Blk.range hk1) Tryd.underlying28 rfl I5c ?_)
    | (go_at_call 8; refine (CS.out _ hB1).mono ?_; rintro e' x2 ⟨rfl, d2⟩; have hB2 := below_more hB1 d2; have KA := hB2)
    | (go_at_call 22; first | ((with_reducible refine (SU.out _ hB4b).mono ?_); rintro e' y6 ⟨A8, c8, rfl, hr8, hc8, hm8, d8⟩; have hB8 := below_more hB4b d8) | ((with_reducible refine (SU.out _ hB2).mono ?_); rintro e' x3 ⟨A6, c6, rfl, hr6, hc6, hm6, d3⟩; have hB3 := below_more hB2 d3))
    | (go_at_call 23; refine (DB.out _ A6 c6 hB3 hr6 hc6 hm6).mono ?_; rintro e' x4 ⟨rfl, d4⟩; have hB4 := below_more hB3 d4; have KA := hB4)
    | (go_at_call 11; refine (GT.out _ hB4).mono ?_; rintro e' x5 ⟨A2, c2, rfl, hr2, d5⟩; have hB4b := below_more hB4 d5)
    | (go_at_call 24; refine (AB.out _ A8 c8 hB8 hr8 hc8 hm8).mono ?_; rintro e' x7 ⟨A5, c5, rfl, hr5, d7⟩))
  have h57 : Below x5.heap.size x5 x7 := below_more d8 d7
  have h17 : Below x1.heap.size x1 x7 := below_more (below_more (below_more (below_more d2 d3) d4) d5) h57
  have hB7 := below_more hB1 h17
  have hk7 := hk1.up h17
  have hr27 := hr2.below h57
  obtain ⟨ba, oa, A3, m3, c3, hlB, rfl, sc, hmc, hcm, hrd⟩ := hr27.at_ hnN'
  have hxe : B[n] = x := by rw [← HB.out]; unfold hat; rw [List.getD_eq_getElem?_getD, List.getElem?_eq_getElem hlB]; rfl
  rw [hxe] at hrd
  have NC : Hid (∀ v ∈ ([.slice AL n cL, .slice none 0 0, .int .i64 0, .int .i64 0, .slice none 0 0] : List Value), ∀ z : Int, v ≠ .int .u8 z) := Lib.hid (by simp)
  have hnx := rd_ne hrd hk7 NC.out
  have hnu := rdH_ne hr5 hk7 NC.out
  obtain ⟨bu, ou, rfl, hbu, hg0⟩ := hr5.at_ (k := 0) (by omega)
  have hbne : bu ≠ g3 := hnu bu ou rfl (by omega)
  have hs17 := h17.size
  have hg31 := hk1.lt
  have hwg : w.heap.size ≤ g3 := hg3
  clear hr2 hr6 hr8 d2 d3 d4 d5 d7 d8 h57 h17 hk1 hxe hlB hr27 hg0
  go_upto_region 9 with ((with_reducible refine at_store 23 (.tmp 46) (.tmp 45) ?_); refine wpList_storeC rfl 23 (.tmp 46) (.tmp 45) rfl g3 1 (.slice A3 m3 c3) [.slice AL n cL, .slice none 0 0, .int .i64 0, .int .i64 0, .slice none 0 0] 28 (by first | rfl | simp [Act.eval]) (by first | rfl | simp [Act.eval]) hk7 (by simp) (by kernel_rfl) rfl rfl ?_; intro z8 hk8 ho8)
  have hk8 : Blk z8 g3 [.slice AL n cL, .slice A3 m3 c3, .int .i64 0, .int .i64 0, .slice none 0 0] 28 := hk8
  have hrd8 := hrd.only ho8 hnx
  have hr58 := hr5.only ho8 (fun b off e _ => hnu b off e (by omega))
  have hB8z : Below w.heap.size w z8 := hB7.trans (ho8.below hwg)
  have BRB : ∀ (g9 : Nat) W, (Instr.build 26 #[(0, .int .i64 2), (1, .int .i64 0), (2, .slice (some ⟨g9, 0, none⟩) 1 1)]).run Tryd.prog W = .ok (.agg #[.int .i64 2, .int .i64 0, .slice (some ⟨g9, 0, none⟩) 1 1]) W := fun g9 W => run_build W _ _ _ (by kernel_rfl)
  obtain ⟨bu', ou', he5, hbu8, hgu⟩ := hr58.at_ (k := 1) (by omega)
  obtain ⟨rfl, rfl⟩ : bu' = bu ∧ ou' = ou := by injection he5 with e; injection e with q1 q2; exact ⟨q1.symm, q2.symm⟩
  rw [HUU.out.2.1, ← HU1.out] at hgu
  have hs8 := ho8.size
  clear sc hk7 hrd ho8 hr5 he5
  go_upto_region 10 with (first
    | ((with_reducible refine at_load 47 (.tmp 48) ?_); refine wpList_load_mid rfl 47 (.tmp 48) rfl bu' (ou' + 1 * 32) (by first | rfl | simp [Act.eval, Act.put]) U1 _ hgu Tryd.underlying47 rfl IU1.out ?_)
    | ((with_reducible refine at_bsP 24 1 #[(0, .tmp 49)] ?_); refine wpList_bsE rfl 24 47 Tryd.underlying24 infoG (.tmp 49) rfl U1 (by first | rfl | simp [Act.eval, Act.put]) LU1.out ?_; intro g9 z9 hb9 hg9 hl9 hf9 hB9)
    | ((with_reducible refine at_bldZ 26 #[(0, .const (.int .i64 2)), (1, .const (.int .i64 0)), (2, .tmp 50)] ?_); refine wpList_bld rfl 26 _ rfl #[(0, .int .i64 2), (1, .int .i64 0), (2, .slice (some ⟨g9, 0, none⟩) 1 1)] (.agg #[.int .i64 2, .int .i64 0, .slice (some ⟨g9, 0, none⟩) 1 1]) (by first | rfl | simp [Act.eval, Act.put]) (BRB g9) ?_)
    | ((with_reducible refine at_store 26 (.tmp 52) (.tmp 51) ?_); refine wpList_storeP rfl 26 (.tmp 52) (.tmp 51) rfl g3 (0 + 2) [.int .i64 2, .int .i64 0, .slice (some ⟨g9, 0, none⟩) 1 1] [.slice AL n cL, .slice A3 m3 c3, .int .i64 0, .int .i64 0, .slice none 0 0] 28 (by first | rfl | simp [Act.eval, Act.put]) (by first | rfl | simp [Act.eval, Act.put]) (hk8.stepF hf9) (by simp) (by kernel_rfl) (by simp [Value.oneCell']) ?_; intro za hka hoa))
  have hka : Blk za g3 [.slice AL n cL, .slice A3 m3 c3, .int .i64 2, .int .i64 0, .slice (some ⟨g9, 0, none⟩) 1 1] 28 := hka
  have NT : Hid (∀ v ∈ ([.slice AL n cL, .slice A3 m3 c3, .int .i64 0, .int .i64 0, .slice none 0 0] : List Value), ∀ z : Int, v ≠ .int .u8 z) := Lib.hid (by simp)
  have hk9 := hk8.stepF hf9
  have hr59 := hr58.below hB9
  have hrd9 := hrd8.below hB9
  have hra := hr59.only hoa (rdH_ne hr59 hk9 NT.out)
  have HX := Lib.hid (hrd9.only hoa (rd_ne hrd9 hk9 NT.out))
  have hgg : g9 ≠ g3 := by have := hk8.lt; omega
  have HP9 := Lib.hid (RdH.oneV HU32.out HU1.out (hoa.blk hb9 hgg))
  have hBw : Below w.heap.size w za := (below_more hB8z hB9).trans (hoa.below hwg)
  obtain ⟨q0, p0, e0', hq0, hr0⟩ := hra.at_ (k := 0) (by omega)
  obtain ⟨q1, p1, e1', hq1, hr1⟩ := hra.at_ (k := 1) (by omega)
  obtain ⟨rfl, rfl⟩ : q0 = bu' ∧ p0 = ou' := by injection e0' with e; injection e with q1 q2; exact ⟨q1.symm, q2.symm⟩
  obtain ⟨rfl, rfl⟩ : q1 = q0 ∧ p1 = p0 := by injection e1' with e; injection e with q1 q2; exact ⟨q1.symm, q2.symm⟩
  rw [HUU.out.1, ← HUU.out.2.2] at hr0
  rw [HUU.out.2.1, ← HU1.out] at hr1
  have K10 : Hid (∀ W, Below za.heap.size za W → W.rangeAt q1 (p1 + 0 * 32) U0 ∧ W.rangeAt q1 (p1 + 1 * 32) U1) := Lib.hid fun W h => ⟨range_below hr0 h hq0, range_below hr1 h hq1⟩
  clear hk8 hrd8 hr58 hb9 hf9 hB9 hoa hk9 hr59 hrd9 hra e0' e1' hr0 hr1 hgu
  cases hEc : E
  · rw [hEc] at heq HE
    have hne : u0 ≠ u1 := fun e => by have := HE.out; rw [decide_eq_true e] at this; simp at this
    have CK := Lib.hid (CK.out hne)
    have K12 : Hid (∀ W, Below za.heap.size za W → W.cell? ⟨g3, 1, none⟩ = some (.slice A3 m3 c3) ∧ W.rangeAt g3 (0 + 2) [.int .i64 2, .int .i64 0, .slice (some ⟨g9, 0, none⟩) 1 1]) := Lib.hid fun W h => ⟨(hka.up h).cell 1, case_mid (hka.up h)⟩
    clear hne
    go_upto_region 10 with fail
    refine wp_region_held_drew (S := fun W => W.rangeAt q1 (p1 + 0 * 32) U0 ∧ W.rangeAt q1 (p1 + 1 * 32) U1) (by kernel_rfl) ?_ (fun hHeld => ?_)
    · exact K10.out _ (below_dr (Below.refl _ _))
    refine wpAnyH_take (i := 0) (v := ?_) rfl (by kernel_rfl) (by kernel_rfl) (by kernel_rfl) (fun _ _ _ h => h) (Or.inl ⟨by rfl, ?_⟩) (by assumption) ?_
    rotate_left 1
    · intro w hSw; (try dsimp only at hSw); simp only [List.getElem_toArray, List.getElem_cons_succ, List.getElem_cons_zero]; go_simp; try (with_reducible rfl)
    (try simp only [List.getElem_toArray, List.getElem_cons_succ, List.getElem_cons_zero, Act.put, List.setIfInBounds_toArray, List.set_cons_succ, List.set_cons_zero])
    refine wpAnyH_take (i := 1) (v := ?_) rfl (by kernel_rfl) (by kernel_rfl) (by kernel_rfl) (fun _ _ _ h => h) (Or.inl ⟨by rfl, ?_⟩) (by assumption) ?_
    rotate_left 1
    · intro w hSw; (try dsimp only at hSw); simp only [List.getElem_toArray, List.getElem_cons_succ, List.getElem_cons_zero]; go_simp; try (with_reducible rfl)
    (try simp only [List.getElem_toArray, List.getElem_cons_succ, List.getElem_cons_zero, Act.put, List.setIfInBounds_toArray, List.set_cons_succ, List.set_cons_zero])
    refine wpAnyH_take (i := 2) rfl (by kernel_rfl) (by kernel_rfl) (by kernel_rfl) (fun _ _ _ h => h) (yieldsIf_load_mid (by rfl) _ _ rfl _ _ rfl U0 _ (fun w hSw => by (try dsimp only at hSw); go_split_ands; assumption) Tryd.underlying47 rfl IU0.out) (by assumption) ?_
    (try simp only [List.getElem_toArray, List.getElem_cons_succ, List.getElem_cons_zero, Act.put, List.setIfInBounds_toArray, List.set_cons_succ, List.set_cons_zero])
    refine wpAnyH_take (i := 3) (v := ?_) rfl (by kernel_rfl) (by kernel_rfl) (by kernel_rfl) (fun _ _ _ h => h) (Or.inl ⟨by rfl, ?_⟩) (by assumption) ?_
    rotate_left 1
    · intro w hSw; (try dsimp only at hSw); simp only [List.getElem_toArray, List.getElem_cons_succ, List.getElem_cons_zero]; go_simp; try (with_reducible rfl)
    (try simp only [List.getElem_toArray, List.getElem_cons_succ, List.getElem_cons_zero, Act.put, List.setIfInBounds_toArray, List.set_cons_succ, List.set_cons_zero])
    refine wpAnyH_take (i := 4) (v := ?_) rfl (by kernel_rfl) (by kernel_rfl) (by kernel_rfl) (fun _ _ _ h => h) (Or.inl ⟨by rfl, ?_⟩) (by assumption) ?_
    rotate_left 1
    · intro w hSw; (try dsimp only at hSw); simp only [List.getElem_toArray, List.getElem_cons_succ, List.getElem_cons_zero]; go_simp; try (with_reducible rfl)
    (try simp only [List.getElem_toArray, List.getElem_cons_succ, List.getElem_cons_zero, Act.put, List.setIfInBounds_toArray, List.set_cons_succ, List.set_cons_zero])
    refine wpAnyH_take (i := 5) rfl (by kernel_rfl) (by kernel_rfl) (by kernel_rfl) (fun _ _ _ h => h) (yieldsIf_load_mid (by rfl) _ _ rfl _ _ rfl U1 _ (fun w hSw => by (try dsimp only at hSw); go_split_ands; assumption) Tryd.underlying47 rfl IU1.out) (by assumption) ?_
    (try simp only [List.getElem_toArray, List.getElem_cons_succ, List.getElem_cons_zero, Act.put, List.setIfInBounds_toArray, List.set_cons_succ, List.set_cons_zero])
    refine wpAnyH_take (i := 6) (v := ?_) rfl (by kernel_rfl) (by kernel_rfl) (by kernel_rfl) (fun _ _ _ h => h) (Or.inl ⟨by rfl, ?_⟩) (by assumption) ?_
    rotate_left 1
    · intro w hSw; (try dsimp only at hSw); simp only [List.getElem_toArray, List.getElem_cons_succ, List.getElem_cons_zero]; go_simp; try (with_reducible rfl)
    (try simp only [List.getElem_toArray, List.getElem_cons_succ, List.getElem_cons_zero, Act.put, List.setIfInBounds_toArray, List.set_cons_succ, List.set_cons_zero])
    refine wpAnyH_done (by kernel_rfl) ?_ _
    have hBd := below_dr hBw
    have K12d := Lib.hid fun (W : World) (h : Below za.drew.heap.size za.drew W) => K12.out W (below_more (below_dr (Below.refl _ _)) h)
    go_upto_region 12 with fail
    go_cut [71] from 61 to 70 (fun bv wx => bv = .bool false ∧ Below za.heap.size za wx)
    case first =>
      refine wp_region_held_drew (S := fun W => W.cell? ⟨g3, 1, none⟩ = some (.slice A3 m3 c3) ∧ W.rangeAt g3 (0 + 2) [.int .i64 2, .int .i64 0, .slice (some ⟨g9, 0, none⟩) 1 1]) (by kernel_rfl) ?_ (fun hHeld => ?_)
      · exact K12.out _ (by ((repeat (first | with_reducible assumption | with_reducible exact Below.refl _ _ | with_reducible apply below_al | with_reducible apply below_dr | with_reducible refine below_more ?_ (by assumption)))))
      refine wpAnyH_take (i := 0) (v := ?_) rfl (by kernel_rfl) (by kernel_rfl) (by kernel_rfl) (fun _ _ _ h => h) (Or.inl ⟨by rfl, ?_⟩) (by assumption) ?_
      rotate_left 1
      · intro w hSw; (try dsimp only at hSw); simp only [List.getElem_toArray, List.getElem_cons_succ, List.getElem_cons_zero]; go_simp; try (with_reducible rfl)
      (try simp only [List.getElem_toArray, List.getElem_cons_succ, List.getElem_cons_zero, Act.put, List.setIfInBounds_toArray, List.set_cons_succ, List.set_cons_zero])
      refine wpAnyH_take (i := 1) rfl (by kernel_rfl) (by kernel_rfl) (by kernel_rfl) (fun _ _ _ h => h) (yieldsIf_load_mid (by rfl) _ _ rfl _ _ rfl [.int .i64 2, .int .i64 0, .slice (some ⟨g9, 0, none⟩) 1 1] _ (fun w hSw => by (try dsimp only at hSw); go_split_ands; assumption) Tryd.underlying26 rfl (by kernel_rfl)) (by assumption) ?_
      (try simp only [List.getElem_toArray, List.getElem_cons_succ, List.getElem_cons_zero, Act.put, List.setIfInBounds_toArray, List.set_cons_succ, List.set_cons_zero])
      refine wpAnyH_take (i := 2) (v := ?_) rfl (by kernel_rfl) (by kernel_rfl) (by kernel_rfl) (fun _ _ _ h => h) (Or.inl ⟨by rfl, ?_⟩) (by assumption) ?_
      rotate_left 1
      · intro w hSw; (try dsimp only at hSw); simp only [List.getElem_toArray, List.getElem_cons_succ, List.getElem_cons_zero]; go_simp; try (with_reducible rfl)
      (try simp only [List.getElem_toArray, List.getElem_cons_succ, List.getElem_cons_zero, Act.put, List.setIfInBounds_toArray, List.set_cons_succ, List.set_cons_zero])
      refine wpAnyH_take (i := 5) (v := ?_) rfl (by kernel_rfl) (by kernel_rfl) (by kernel_rfl) (fun _ _ _ h => h) (Or.inl ⟨by rfl, ?_⟩) (by assumption) ?_
      rotate_left 1
      · intro w hSw; (try dsimp only at hSw); simp only [List.getElem_toArray, List.getElem_cons_succ, List.getElem_cons_zero]; go_simp; try (with_reducible rfl)
      (try simp only [List.getElem_toArray, List.getElem_cons_succ, List.getElem_cons_zero, Act.put, List.setIfInBounds_toArray, List.set_cons_succ, List.set_cons_zero])
      refine wpAnyH_take (i := 6) (v := ?_) rfl (by kernel_rfl) (by kernel_rfl) (by kernel_rfl) (fun _ _ _ h => h) (Or.inl ⟨by rfl, ?_⟩) (by assumption) ?_
      rotate_left 1
      · intro w hSw; (try dsimp only at hSw); simp only [List.getElem_toArray, List.getElem_cons_succ, List.getElem_cons_zero]; go_simp; try (with_reducible rfl)
      (try simp only [List.getElem_toArray, List.getElem_cons_succ, List.getElem_cons_zero, Act.put, List.setIfInBounds_toArray, List.set_cons_succ, List.set_cons_zero])
      refine wpAnyH_ready (rs := [3, 7]) (by kernel_rfl) (by simp) ?_
      refine AllReadyH.cons rfl (fun K hK => ?_) ?_
      · (try simp only [List.getElem_toArray, List.getElem_cons_succ, List.getElem_cons_zero])
        go_simp
        go_at_call 22; refine (SU.out _ (below_more hBw (by ((repeat (first | with_reducible assumption | with_reducible exact Below.refl _ _ | with_reducible apply below_al | with_reducible apply below_dr | with_reducible refine below_more ?_ (by assumption))))))).mono ?_; rintro e' y3 ⟨A7, c7, rfl, hr7, hc7, hm7, e3⟩
        (try (go_wp2_with fail))
        refine hK.out _ _ ?_ (fun hHeld => ?_)
        · exact K12.out _ (by ((repeat (first | with_reducible assumption | with_reducible exact Below.refl _ _ | with_reducible apply below_al | with_reducible apply below_dr | with_reducible refine below_more ?_ (by assumption)))))
        clear hK K
        (try simp only [Act.put, List.setIfInBounds_toArray, List.set_cons_succ, List.set_cons_zero])
        refine wpAnyH_ready (rs := [4, 7]) (by kernel_rfl) (by simp) ?_
        refine AllReadyH.cons rfl (fun K hK => ?_) ?_
        · (try simp only [List.getElem_toArray, List.getElem_cons_succ, List.getElem_cons_zero])
          go_simp
          go_at_call 21; refine (RT.out _ A7 c7 (below_more hBw (by ((repeat (first | with_reducible assumption | with_reducible exact Below.refl _ _ | with_reducible apply below_al | with_reducible apply below_dr | with_reducible refine below_more ?_ (by assumption)))))) (hr7.below (by ((repeat (first | with_reducible assumption | with_reducible exact Below.refl _ _ | with_reducible apply below_al | with_reducible apply below_dr | with_reducible refine below_more ?_ (by assumption)))))) hc7 hm7).mono ?_; rintro e' y4 ⟨rfl, e4⟩
          (try (go_wp2_with fail))
          refine hK.out _ _ ?_ (fun hHeld => ?_)
          · exact K12.out _ (by ((repeat (first | with_reducible assumption | with_reducible exact Below.refl _ _ | with_reducible apply below_al | with_reducible apply below_dr | with_reducible refine below_more ?_ (by assumption)))))
          clear hK K
          (try simp only [Act.put, List.setIfInBounds_toArray, List.set_cons_succ, List.set_cons_zero])
          refine wpAnyH_ready (rs := [7]) (by kernel_rfl) (by simp) ?_
          refine AllReadyH.cons rfl (fun K hK => ?_) AllReadyH.nil
          (try simp only [List.getElem_toArray, List.getElem_cons_succ, List.getElem_cons_zero])
          refine Eq.mpr (if_pos (by first | rfl | simp [Region.wanted, yielded, Act.put])) ?_
          refine wp_bsM _ rfl A3 m3 c3 x (by first | rfl | simp [Act.eval]) (HX.out.below (by ((repeat (first | with_reducible assumption | with_reducible exact Below.refl _ _ | with_reducible apply below_al | with_reducible apply below_dr | with_reducible refine below_more ?_ (by assumption)))))) hmc hcm ?_
          intro g8 y8 hM8 hg8 e8
          refine hK.out _ _ ?_ (fun hHeld => ?_)
          · exact K12.out _ (by ((repeat (first | with_reducible assumption | with_reducible exact Below.refl _ _ | with_reducible apply below_al | with_reducible apply below_dr | with_reducible refine below_more ?_ (by assumption)))))
          clear hK K
          (try simp only [Act.put, List.setIfInBounds_toArray, List.set_cons_succ, List.set_cons_zero])
          refine wpAnyH_ready (rs := [8]) (by kernel_rfl) (by simp) ?_
          refine AllReadyH.cons rfl (fun K hK => ?_) AllReadyH.nil
          (try simp only [List.getElem_toArray, List.getElem_cons_succ, List.getElem_cons_zero])
          go_simp
          go_at_call 19; refine (CT2.out _ g8 (below_more hBw (by ((repeat (first | with_reducible assumption | with_reducible exact Below.refl _ _ | with_reducible apply below_al | with_reducible apply below_dr | with_reducible refine below_more ?_ (by assumption)))))) (hM8.below (by ((repeat (first | with_reducible assumption | with_reducible exact Below.refl _ _ | with_reducible apply below_al | with_reducible apply below_dr | with_reducible refine below_more ?_ (by assumption))))))).mono ?_; rintro e' y9 ⟨rfl, e9⟩
          (try (go_wp2_with fail))
          refine hK.out _ _ ?_ (fun hHeld => ?_)
          · exact K12.out _ (by ((repeat (first | with_reducible assumption | with_reducible exact Below.refl _ _ | with_reducible apply below_al | with_reducible apply below_dr | with_reducible refine below_more ?_ (by assumption)))))
          clear hK K
          (try simp only [Act.put, List.setIfInBounds_toArray, List.set_cons_succ, List.set_cons_zero])
          refine wpAnyH_ready (rs := [9]) (by kernel_rfl) (by simp) ?_
          refine AllReadyH.cons rfl (fun K hK => ?_) AllReadyH.nil
          (try simp only [List.getElem_toArray, List.getElem_cons_succ, List.getElem_cons_zero])
          go_simp
          go_at_call 20; refine (CK.out _ g9 (below_more hBw (by ((repeat (first | with_reducible assumption | with_reducible exact Below.refl _ _ | with_reducible apply below_al | with_reducible apply below_dr | with_reducible refine below_more ?_ (by assumption)))))) (HP9.out.below (by ((repeat (first | with_reducible assumption | with_reducible exact Below.refl _ _ | with_reducible apply below_al | with_reducible apply below_dr | with_reducible refine below_more ?_ (by assumption))))))).mono ?_; rintro e' y10 ⟨rfl, e10⟩
          (try (go_wp2_with fail))
          refine hK.out _ _ ?_ (fun hHeld => ?_)
          · exact K12.out _ (by ((repeat (first | with_reducible assumption | with_reducible exact Below.refl _ _ | with_reducible apply below_al | with_reducible apply below_dr | with_reducible refine below_more ?_ (by assumption)))))
          clear hK K
          (try simp only [Act.put, List.setIfInBounds_toArray, List.set_cons_succ, List.set_cons_zero])
          refine wpAnyH_take (i := 10) (v := ?_) rfl (by kernel_rfl) (by kernel_rfl) (by kernel_rfl) (fun _ _ _ h => h) (Or.inl ⟨by rfl, ?_⟩) (by assumption) ?_
          rotate_left 1
          · intro w hSw; (try dsimp only at hSw); simp only [List.getElem_toArray, List.getElem_cons_succ, List.getElem_cons_zero]; go_simp; try (with_reducible rfl)
          (try simp only [List.getElem_toArray, List.getElem_cons_succ, List.getElem_cons_zero, Act.put, List.setIfInBounds_toArray, List.set_cons_succ, List.set_cons_zero])
          refine wpAnyH_done (by kernel_rfl) ?_ _
          go_wp2
          go_meet
          exact ⟨by first | rfl | simp, (by ((repeat (first | with_reducible assumption | with_reducible exact Below.refl _ _ | with_reducible apply below_al | with_reducible apply below_dr | with_reducible refine below_more ?_ (by assumption)))))⟩
        refine AllReadyH.cons rfl (fun K hK => ?_) AllReadyH.nil
        (try simp only [List.getElem_toArray, List.getElem_cons_succ, List.getElem_cons_zero])
        refine Eq.mpr (if_pos (by first | rfl | simp [Region.wanted, yielded, Act.put])) ?_
        refine wp_bsM _ rfl A3 m3 c3 x (by first | rfl | simp [Act.eval]) (HX.out.below (by ((repeat (first | with_reducible assumption | with_reducible exact Below.refl _ _ | with_reducible apply below_al | with_reducible apply below_dr | with_reducible refine below_more ?_ (by assumption)))))) hmc hcm ?_
        intro g8 y8 hM8 hg8 e8
        refine hK.out _ _ ?_ (fun hHeld => ?_)
        · exact K12.out _ (by ((repeat (first | with_reducible assumption | with_reducible exact Below.refl _ _ | with_reducible apply below_al | with_reducible apply below_dr | with_reducible refine below_more ?_ (by assumption)))))
        clear hK K
        (try simp only [Act.put, List.setIfInBounds_toArray, List.set_cons_succ, List.set_cons_zero])
        refine wpAnyH_ready (rs := [4]) (by kernel_rfl) (by simp) ?_
        refine AllReadyH.cons rfl (fun K hK => ?_) AllReadyH.nil
        (try simp only [List.getElem_toArray, List.getElem_cons_succ, List.getElem_cons_zero])
        go_simp
        go_at_call 21; refine (RT.out _ A7 c7 (below_more hBw (by ((repeat (first | with_reducible assumption | with_reducible exact Below.refl _ _ | with_reducible apply below_al | with_reducible apply below_dr | with_reducible refine below_more ?_ (by assumption)))))) (hr7.below (by ((repeat (first | with_reducible assumption | with_reducible exact Below.refl _ _ | with_reducible apply below_al | with_reducible apply below_dr | with_reducible refine below_more ?_ (by assumption)))))) hc7 hm7).mono ?_; rintro e' y4 ⟨rfl, e4⟩
        (try (go_wp2_with fail))
        refine hK.out _ _ ?_ (fun hHeld => ?_)
        · exact K12.out _ (by ((repeat (first | with_reducible assumption | with_reducible exact Below.refl _ _ | with_reducible apply below_al | with_reducible apply below_dr | with_reducible refine below_more ?_ (by assumption)))))
        clear hK K
        (try simp only [Act.put, List.setIfInBounds_toArray, List.set_cons_succ, List.set_cons_zero])
        refine wpAnyH_ready (rs := [8]) (by kernel_rfl) (by simp) ?_
        refine AllReadyH.cons rfl (fun K hK => ?_) AllReadyH.nil
        (try simp only [List.getElem_toArray, List.getElem_cons_succ, List.getElem_cons_zero])
        go_simp
        go_at_call 19; refine (CT2.out _ g8 (below_more hBw (by ((repeat (first | with_reducible assumption | with_reducible exact Below.refl _ _ | with_reducible apply below_al | with_reducible apply below_dr | with_reducible refine below_more ?_ (by assumption)))))) (hM8.below (by ((repeat (first | with_reducible assumption | with_reducible exact Below.refl _ _ | with_reducible apply below_al | with_reducible apply below_dr | with_reducible refine below_more ?_ (by assumption))))))).mono ?_; rintro e' y9 ⟨rfl, e9⟩
        (try (go_wp2_with fail))
        refine hK.out _ _ ?_ (fun hHeld => ?_)
        · exact K12.out _ (by ((repeat (first | with_reducible assumption | with_reducible exact Below.refl _ _ | with_reducible apply below_al | with_reducible apply below_dr | with_reducible refine below_more ?_ (by assumption)))))
        clear hK K
        (try simp only [Act.put, List.setIfInBounds_toArray, List.set_cons_succ, List.set_cons_zero])
        refine wpAnyH_ready (rs := [9]) (by kernel_rfl) (by simp) ?_
        refine AllReadyH.cons rfl (fun K hK => ?_) AllReadyH.nil
        (try simp only [List.getElem_toArray, List.getElem_cons_succ, List.getElem_cons_zero])
        go_simp
        go_at_call 20; refine (CK.out _ g9 (below_more hBw (by ((repeat (first | with_reducible assumption | with_reducible exact Below.refl _ _ | with_reducible apply below_al | with_reducible apply below_dr | with_reducible refine below_more ?_ (by assumption)))))) (HP9.out.below (by ((repeat (first | with_reducible assumption | with_reducible exact Below.refl _ _ | with_reducible apply below_al | with_reducible apply below_dr | with_reducible refine below_more ?_ (by assumption))))))).mono ?_; rintro e' y10 ⟨rfl, e10⟩
        (try (go_wp2_with fail))
        refine hK.out _ _ ?_ (fun hHeld => ?_)
        · exact K12.out _ (by ((repeat (first | with_reducible assumption | with_reducible exact Below.refl _ _ | with_reducible apply below_al | with_reducible apply below_dr | with_reducible refine below_more ?_ (by assumption)))))
        clear hK K
        (try simp only [Act.put, List.setIfInBounds_toArray, List.set_cons_succ, List.set_cons_zero])
        refine wpAnyH_take (i := 10) (v := ?_) rfl (by kernel_rfl) (by kernel_rfl) (by kernel_rfl) (fun _ _ _ h => h) (Or.inl ⟨by rfl, ?_⟩) (by assumption) ?_
        rotate_left 1
        · intro w hSw; (try dsimp only at hSw); simp only [List.getElem_toArray, List.getElem_cons_succ, List.getElem_cons_zero]; go_simp; try (with_reducible rfl)
        (try simp only [List.getElem_toArray, List.getElem_cons_succ, List.getElem_cons_zero, Act.put, List.setIfInBounds_toArray, List.set_cons_succ, List.set_cons_zero])
        refine wpAnyH_done (by kernel_rfl) ?_ _
        go_wp2
        go_meet
        exact ⟨by first | rfl | simp, (by ((repeat (first | with_reducible assumption | with_reducible exact Below.refl _ _ | with_reducible apply below_al | with_reducible apply below_dr | with_reducible refine below_more ?_ (by assumption)))))⟩
      refine AllReadyH.cons rfl (fun K hK => ?_) AllReadyH.nil
      (try simp only [List.getElem_toArray, List.getElem_cons_succ, List.getElem_cons_zero])
      refine Eq.mpr (if_pos (by first | rfl | simp [Region.wanted, yielded, Act.put])) ?_
      refine wp_bsM _ rfl A3 m3 c3 x (by first | rfl | simp [Act.eval]) (HX.out.below (by ((repeat (first | with_reducible assumption | with_reducible exact Below.refl _ _ | with_reducible apply below_al | with_reducible apply below_dr | with_reducible refine below_more ?_ (by assumption)))))) hmc hcm ?_
      intro g8 y8 hM8 hg8 e8
      refine hK.out _ _ ?_ (fun hHeld => ?_)
      · exact K12.out _ (by ((repeat (first | with_reducible assumption | with_reducible exact Below.refl _ _ | with_reducible apply below_al | with_reducible apply below_dr | with_reducible refine below_more ?_ (by assumption)))))
      clear hK K
      (try simp only [Act.put, List.setIfInBounds_toArray, List.set_cons_succ, List.set_cons_zero])
      refine wpAnyH_ready (rs := [3]) (by kernel_rfl) (by simp) ?_
      refine AllReadyH.cons rfl (fun K hK => ?_) AllReadyH.nil
      (try simp only [List.getElem_toArray, List.getElem_cons_succ, List.getElem_cons_zero])
      go_simp
      go_at_call 22; refine (SU.out _ (below_more hBw (by ((repeat (first | with_reducible assumption | with_reducible exact Below.refl _ _ | with_reducible apply below_al | with_reducible apply below_dr | with_reducible refine below_more ?_ (by assumption))))))).mono ?_; rintro e' y3 ⟨A7, c7, rfl, hr7, hc7, hm7, e3⟩
      (try (go_wp2_with fail))
      refine hK.out _ _ ?_ (fun hHeld => ?_)
      · exact K12.out _ (by ((repeat (first | with_reducible assumption | with_reducible exact Below.refl _ _ | with_reducible apply below_al | with_reducible apply below_dr | with_reducible refine below_more ?_ (by assumption)))))
      clear hK K
      (try simp only [Act.put, List.setIfInBounds_toArray, List.set_cons_succ, List.set_cons_zero])
      refine wpAnyH_ready (rs := [4]) (by kernel_rfl) (by simp) ?_
      refine AllReadyH.cons rfl (fun K hK => ?_) AllReadyH.nil
      (try simp only [List.getElem_toArray, List.getElem_cons_succ, List.getElem_cons_zero])
      go_simp
      go_at_call 21; refine (RT.out _ A7 c7 (below_more hBw (by ((repeat (first | with_reducible assumption | with_reducible exact Below.refl _ _ | with_reducible apply below_al | with_reducible apply below_dr | with_reducible refine below_more ?_ (by assumption)))))) (hr7.below (by ((repeat (first | with_reducible assumption | with_reducible exact Below.refl _ _ | with_reducible apply below_al | with_reducible apply below_dr | with_reducible refine below_more ?_ (by assumption)))))) hc7 hm7).mono ?_; rintro e' y4 ⟨rfl, e4⟩
      (try (go_wp2_with fail))
      refine hK.out _ _ ?_ (fun hHeld => ?_)
      · exact K12.out _ (by ((repeat (first | with_reducible assumption | with_reducible exact Below.refl _ _ | with_reducible apply below_al | with_reducible apply below_dr | with_reducible refine below_more ?_ (by assumption)))))
      clear hK K
      (try simp only [Act.put, List.setIfInBounds_toArray, List.set_cons_succ, List.set_cons_zero])
      refine wpAnyH_ready (rs := [8]) (by kernel_rfl) (by simp) ?_
      refine AllReadyH.cons rfl (fun K hK => ?_) AllReadyH.nil
      (try simp only [List.getElem_toArray, List.getElem_cons_succ, List.getElem_cons_zero])
      go_simp
      go_at_call 19; refine (CT2.out _ g8 (below_more hBw (by ((repeat (first | with_reducible assumption | with_reducible exact Below.refl _ _ | with_reducible apply below_al | with_reducible apply below_dr | with_reducible refine below_more ?_ (by assumption)))))) (hM8.below (by ((repeat (first | with_reducible assumption | with_reducible exact Below.refl _ _ | with_reducible apply below_al | with_reducible apply below_dr | with_reducible refine below_more ?_ (by assumption))))))).mono ?_; rintro e' y9 ⟨rfl, e9⟩
      (try (go_wp2_with fail))
      refine hK.out _ _ ?_ (fun hHeld => ?_)
      · exact K12.out _ (by ((repeat (first | with_reducible assumption | with_reducible exact Below.refl _ _ | with_reducible apply below_al | with_reducible apply below_dr | with_reducible refine below_more ?_ (by assumption)))))
      clear hK K
      (try simp only [Act.put, List.setIfInBounds_toArray, List.set_cons_succ, List.set_cons_zero])
      refine wpAnyH_ready (rs := [9]) (by kernel_rfl) (by simp) ?_
      refine AllReadyH.cons rfl (fun K hK => ?_) AllReadyH.nil
      (try simp only [List.getElem_toArray, List.getElem_cons_succ, List.getElem_cons_zero])
      go_simp
      go_at_call 20; refine (CK.out _ g9 (below_more hBw (by ((repeat (first | with_reducible assumption | with_reducible exact Below.refl _ _ | with_reducible apply below_al | with_reducible apply below_dr | with_reducible refine below_more ?_ (by assumption)))))) (HP9.out.below (by ((repeat (first | with_reducible assumption | with_reducible exact Below.refl _ _ | with_reducible apply below_al | with_reducible apply below_dr | with_reducible refine below_more ?_ (by assumption))))))).mono ?_; rintro e' y10 ⟨rfl, e10⟩
      (try (go_wp2_with fail))
      refine hK.out _ _ ?_ (fun hHeld => ?_)
      · exact K12.out _ (by ((repeat (first | with_reducible assumption | with_reducible exact Below.refl _ _ | with_reducible apply below_al | with_reducible apply below_dr | with_reducible refine below_more ?_ (by assumption)))))
      clear hK K
      (try simp only [Act.put, List.setIfInBounds_toArray, List.set_cons_succ, List.set_cons_zero])
      refine wpAnyH_take (i := 10) (v := ?_) rfl (by kernel_rfl) (by kernel_rfl) (by kernel_rfl) (fun _ _ _ h => h) (Or.inl ⟨by rfl, ?_⟩) (by assumption) ?_
      rotate_left 1
      · intro w hSw; (try dsimp only at hSw); simp only [List.getElem_toArray, List.getElem_cons_succ, List.getElem_cons_zero]; go_simp; try (with_reducible rfl)
      (try simp only [List.getElem_toArray, List.getElem_cons_succ, List.getElem_cons_zero, Act.put, List.setIfInBounds_toArray, List.set_cons_succ, List.set_cons_zero])
      refine wpAnyH_done (by kernel_rfl) ?_ _
      go_wp2
      go_meet
      exact ⟨by first | rfl | simp, (by ((repeat (first | with_reducible assumption | with_reducible exact Below.refl _ _ | with_reducible apply below_al | with_reducible apply below_dr | with_reducible refine below_more ?_ (by assumption)))))⟩
    case rest =>
      obtain ⟨rfl, hBel⟩ := hcut
      have hBc := below_more hBw hBel
      have s1 := (K12.out _ hBel).1
      have KR := (K12.out _ hBel).2
      go_upto_region 15 with (first
        | ((with_reducible refine at_load 26 (.tmp 76) ?_); refine wpList_load_mid rfl 26 (.tmp 76) rfl g3 (0 + 2) (by first | rfl | simp [Act.eval]) [.int .i64 2, .int .i64 0, .slice (some ⟨g9, 0, none⟩) 1 1] _ KR Tryd.underlying26 rfl (by kernel_rfl) ?_)
        | (go_at_call 17; refine (GE.out _ A3 m3 c3 g9 hBc (HX.out.below hBel) hmc hcm (HP9.out.below hBel)).mono ?_; rintro e' y3 ⟨A1, n1, c1, A4, n4, c4, a, b, ok, rfl, hok, ha, hb, e3⟩))
      have hB3z := below_more hBc e3
      have hcv1 := conv8 y3 A1 n1 c1 a ha
      have hcv2 := conv8 y3 A4 n4 c4 b hb
      clear s1 KR e3
      cases hokc : ok
      · go_wp2_with (go_at_call 9; refine (CA.out _ hB3z).mono ?_; rintro e' v9 ⟨rfl, d9⟩)
        go_ret
        exact ⟨rfl, below_more hB3z d9⟩
      · have hab : (a == b) = false := by simpa using hok hokc
        have hab2 : ¬ a = b := hok hokc
        go_wp2_with (go_at_call 9; refine (CA.out _ hB3z).mono ?_; rintro e' v9 ⟨rfl, d9⟩)
        go_ret
        exact ⟨by first | rfl | simp [hab], below_more hB3z d9⟩
  · rw [hEc] at heq
    go_upto_region 10 with fail
    refine wp_region_held_drew (S := fun W => W.rangeAt q1 (p1 + 0 * 32) U0 ∧ W.rangeAt q1 (p1 + 1 * 32) U1) (by kernel_rfl) ?_ (fun hHeld => ?_)
    · exact K10.out _ (below_dr (Below.refl _ _))
    refine wpAnyH_take (i := 0) (v := ?_) rfl (by kernel_rfl) (by kernel_rfl) (by kernel_rfl) (fun _ _ _ h => h) (Or.inl ⟨by rfl, ?_⟩) (by assumption) ?_
    rotate_left 1
    · intro w hSw; (try dsimp only at hSw); simp only [List.getElem_toArray, List.getElem_cons_succ, List.getElem_cons_zero]; go_simp; try (with_reducible rfl)
    (try simp only [List.getElem_toArray, List.getElem_cons_succ, List.getElem_cons_zero, Act.put, List.setIfInBounds_toArray, List.set_cons_succ, List.set_cons_zero])
    refine wpAnyH_take (i := 1) (v := ?_) rfl (by kernel_rfl) (by kernel_rfl) (by kernel_rfl) (fun _ _ _ h => h) (Or.inl ⟨by rfl, ?_⟩) (by assumption) ?_
    rotate_left 1
    · intro w hSw; (try dsimp only at hSw); simp only [List.getElem_toArray, List.getElem_cons_succ, List.getElem_cons_zero]; go_simp; try (with_reducible rfl)
    (try simp only [List.getElem_toArray, List.getElem_cons_succ, List.getElem_cons_zero, Act.put, List.setIfInBounds_toArray, List.set_cons_succ, List.set_cons_zero])
    refine wpAnyH_take (i := 2) rfl (by kernel_rfl) (by kernel_rfl) (by kernel_rfl) (fun _ _ _ h => h) (yieldsIf_load_mid (by rfl) _ _ rfl _ _ rfl U0 _ (fun w hSw => by (try dsimp only at hSw); go_split_ands; assumption) Tryd.underlying47 rfl IU0.out) (by assumption) ?_
    (try simp only [List.getElem_toArray, List.getElem_cons_succ, List.getElem_cons_zero, Act.put, List.setIfInBounds_toArray, List.set_cons_succ, List.set_cons_zero])
    refine wpAnyH_take (i := 3) (v := ?_) rfl (by kernel_rfl) (by kernel_rfl) (by kernel_rfl) (fun _ _ _ h => h) (Or.inl ⟨by rfl, ?_⟩) (by assumption) ?_
    rotate_left 1
    · intro w hSw; (try dsimp only at hSw); simp only [List.getElem_toArray, List.getElem_cons_succ, List.getElem_cons_zero]; go_simp; try (with_reducible rfl)
    (try simp only [List.getElem_toArray, List.getElem_cons_succ, List.getElem_cons_zero, Act.put, List.setIfInBounds_toArray, List.set_cons_succ, List.set_cons_zero])
    refine wpAnyH_take (i := 4) (v := ?_) rfl (by kernel_rfl) (by kernel_rfl) (by kernel_rfl) (fun _ _ _ h => h) (Or.inl ⟨by rfl, ?_⟩) (by assumption) ?_
    rotate_left 1
    · intro w hSw; (try dsimp only at hSw); simp only [List.getElem_toArray, List.getElem_cons_succ, List.getElem_cons_zero]; go_simp; try (with_reducible rfl)
    (try simp only [List.getElem_toArray, List.getElem_cons_succ, List.getElem_cons_zero, Act.put, List.setIfInBounds_toArray, List.set_cons_succ, List.set_cons_zero])
    refine wpAnyH_take (i := 5) rfl (by kernel_rfl) (by kernel_rfl) (by kernel_rfl) (fun _ _ _ h => h) (yieldsIf_load_mid (by rfl) _ _ rfl _ _ rfl U1 _ (fun w hSw => by (try dsimp only at hSw); go_split_ands; assumption) Tryd.underlying47 rfl IU1.out) (by assumption) ?_
    (try simp only [List.getElem_toArray, List.getElem_cons_succ, List.getElem_cons_zero, Act.put, List.setIfInBounds_toArray, List.set_cons_succ, List.set_cons_zero])
    refine wpAnyH_take (i := 6) (v := ?_) rfl (by kernel_rfl) (by kernel_rfl) (by kernel_rfl) (fun _ _ _ h => h) (Or.inl ⟨by rfl, ?_⟩) (by assumption) ?_
    rotate_left 1
    · intro w hSw; (try dsimp only at hSw); simp only [List.getElem_toArray, List.getElem_cons_succ, List.getElem_cons_zero]; go_simp; try (with_reducible rfl)
    (try simp only [List.getElem_toArray, List.getElem_cons_succ, List.getElem_cons_zero, Act.put, List.setIfInBounds_toArray, List.set_cons_succ, List.set_cons_zero])
    refine wpAnyH_done (by kernel_rfl) ?_ _
    go_wp2_with (go_at_call 9; refine (CA.out _ (below_dr hBw)).mono ?_; rintro e' v9 ⟨rfl, d9⟩)
    go_ret
    exact ⟨rfl, below_more (below_dr hBw) d9⟩
end Go.Proofs.YtpoinhjkdgcnaaaDoor
