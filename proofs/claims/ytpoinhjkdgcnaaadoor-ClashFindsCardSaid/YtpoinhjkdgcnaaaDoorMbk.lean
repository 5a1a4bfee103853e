/- Merged texts: ClaK. -/
import Derived.Test.YtpoinhjkdgcnaaaDoorMbj
import Derived.Test.YtpoinhjkdgcnaaaDoorMan
/- The contract of layer 10's awake, over what package clash is to answer. -/
namespace Go.Proofs.YtpoinhjkdgcnaaaDoor
open Go.RowKit
set_option linter.unusedVariables false
set_option linter.unusedSimpArgs false

set_option maxRecDepth 100000 in
theorem infoU8 : (Tryd.prog.info? 5).map (fun i => (i.zero, i.size, i.bytes)) = some (some (.int .u8 0), 1, 1) := by kernel_rfl
set_option maxRecDepth 100000 in
theorem run_bsU (z : Int) (W : World) : (Instr.buildSlice 23 1 #[(0, .int .u8 z)]).run Tryd.prog W = .ok (.slice (some ⟨W.heap.size, 0, none⟩) 1 1) (W.alloc (.cells #[.int .u8 z] 5)) := by
  obtain ⟨i, hi, hzz⟩ := Option.map_eq_some_iff.1 infoU8
  simp only [Prod.mk.injEq] at hzz
  obtain ⟨hz, hsz, _⟩ := hzz
  refine run_buildSlice W 23 5 1 _ #[.int .u8 z] i (.int .u8 0) Tryd.underlying23 hi hz (by rw [hsz]; decide) (by rw [hsz]; decide) ?_
  rw [hsz]
  have hz0 : (Array.range (1 * 1)).map ((Value.int .u8 0).cells[· % (Value.int .u8 0).cells.size]!) = [Value.int .u8 0].toArray := by kernel_rfl
  rw [hz0]
  show Instr.fill (fun i => some (i * 1, 1)) [Value.int .u8 0].toArray [(0, .int .u8 z)] = some #[.int .u8 z]
  rw [fill_step _ _ [.int .u8 z] 0 0 _ _ (by rfl) rfl (by simp), over_one _ _ _ (by simp), List.set_cons_zero]
  rfl
set_option maxRecDepth 100000 in
theorem run_bsM2 (A B : Option Addr) (m c n d : Nat) (W : World) : (Instr.buildSlice 22 2 #[(0, .slice A m c), (1, .slice B n d)]).run Tryd.prog W = .ok (.slice (some ⟨W.heap.size, 0, none⟩) 2 2) (W.alloc (.cells #[.slice A m c, .slice B n d] 23)) := by
  obtain ⟨i, hi, hzz⟩ := Option.map_eq_some_iff.1 infoB
  simp only [Prod.mk.injEq] at hzz
  obtain ⟨hz, hsz, _⟩ := hzz
  refine run_buildSlice W 22 23 2 _ #[.slice A m c, .slice B n d] i (.slice none 0 0) Tryd.underlying22 hi hz (by rw [hsz]; decide) (by rw [hsz]; decide) ?_
  rw [hsz]
  have hz0 : (Array.range (2 * 1)).map ((Value.slice none 0 0).cells[· % (Value.slice none 0 0).cells.size]!) = [Value.slice none 0 0, Value.slice none 0 0].toArray := by kernel_rfl
  rw [hz0]
  show Instr.fill (fun i => some (i * 1, 1)) [Value.slice none 0 0, Value.slice none 0 0].toArray [(0, .slice A m c), (1, .slice B n d)] = some #[.slice A m c, .slice B n d]
  rw [fill_step _ _ [.slice A m c] 0 0 _ _ (by rfl) rfl (by simp), over_one _ _ _ (by simp), List.set_cons_zero, fill_step _ _ [.slice B n d] 1 1 _ _ (by rfl) rfl (by simp), over_one _ _ _ (by simp), List.set_cons_succ, List.set_cons_zero]
  rfl
set_option maxRecDepth 100000 in
theorem rd_U (W : World) (b : UInt8) : Rd (W.alloc (.cells #[.int .u8 (b.toNat : Int)] 5)) (some ⟨W.heap.size, 0, none⟩) 1 [b] := by
  have hb := Blk.new W #[.int .u8 (b.toNat : Int)] 5
  refine ⟨rfl, fun _ => ⟨W.heap.size, 0, rfl, hb.lt, fun j hj => ?_⟩⟩
  have e : j = 0 := by simp at hj; exact hj
  subst e
  exact hb.cell 0
section
variable {ops : Array Oper} {rest : List Oper} {o : Oper} {a : Act} {W : World} {Q : Exit → Act → World → Prop} {K : Act → World → Prop}
set_option maxRecDepth 100000 in
theorem wp_bsU (b : UInt8) (x : Operand) (ho : o.op = .buildSlice 23 1 #[(0, x)]) (hx : a.eval x = .int .u8 (b.toNat : Int))
    (h : ∀ g w', Rd w' (some ⟨g, 0, none⟩) 1 [b] → W.heap.size ≤ g → Below W.heap.size W w' → K (a.put o.dst (.slice (some ⟨g, 0, none⟩) 1 1)) w') : o.wp Tryd.prog a W K Q := by
  unfold Oper.wp execOp
  simp only [ho, List.map_toArray, List.map_cons, List.map_nil, hx, Sem.run_bind, run_bsU, Result.andThen_ok]
  exact h W.heap.size _ (rd_U W b) (Nat.le_refl _) ((Below.refl _ W).alloc (Nat.le_refl _) _)
set_option maxRecDepth 100000 in
theorem wpList_bsU (hgd : o.guard = none) (b : UInt8) (x : Operand) (ho : o.op = .buildSlice 23 1 #[(0, x)]) (hx : a.eval x = .int .u8 (b.toNat : Int))
    (h : ∀ g w', Rd w' (some ⟨g, 0, none⟩) 1 [b] → W.heap.size ≤ g → Below W.heap.size W w' → wpList Tryd.prog ops Q rest (a.put o.dst (.slice (some ⟨g, 0, none⟩) 1 1)) w') : wpList Tryd.prog ops Q (o :: rest) a W :=
  wpList_plain hgd fun _ hK => wp_bsU b x ho hx (fun g w' k1 k2 k3 => hK _ _ (h g w' k1 k2 k3))
set_option maxRecDepth 100000 in
theorem wpList_bsUG (hw : Region.wanted o (yielded ops a.tmps) = true) (b : UInt8) (x : Operand) (ho : o.op = .buildSlice 23 1 #[(0, x)]) (hx : a.eval x = .int .u8 (b.toNat : Int))
    (h : ∀ g w', Rd w' (some ⟨g, 0, none⟩) 1 [b] → W.heap.size ≤ g → Below W.heap.size W w' → wpList Tryd.prog ops Q rest (a.put o.dst (.slice (some ⟨g, 0, none⟩) 1 1)) w') : wpList Tryd.prog ops Q (o :: rest) a W := by
  unfold wpList
  rw [if_pos hw]
  exact Or.inl (wp_bsU b x ho hx h)
set_option maxRecDepth 100000 in
theorem at_bsG {P : Program} {dst : Option Tmp} {t : TypeId} {p : String} {af : Array Edge} {gd : Nat × Bool} (ty : TypeId) (k : Nat) (parts : Array (Nat × Operand))
    (h : wpList P ops Q ({ dst := dst, op := .buildSlice ty k parts, type := t, pos := p, after := af, guard := some gd } :: rest) a W) : wpList P ops Q ({ dst := dst, op := .buildSlice ty k parts, type := t, pos := p, after := af, guard := some gd } :: rest) a W := h
set_option maxRecDepth 100000 in
theorem wpList_bsM2 (hgd : o.guard = none) (x y : Operand) (ho : o.op = .buildSlice 22 2 #[(0, x), (1, y)]) (A B : Option Addr) (m c n d : Nat) (l k : List UInt8) (hx : a.eval x = .slice A m c) (hy : a.eval y = .slice B n d) (hr : Rd W A m l) (hs : Rd W B n k) (h1 : m ≤ c) (h2 : c ≤ maxLen) (h3 : n ≤ d) (h4 : d ≤ maxLen)
    (h : ∀ g w', RdM w' (some ⟨g, 0, none⟩) 2 [l, k] → W.heap.size ≤ g → Below W.heap.size W w' → wpList Tryd.prog ops Q rest (a.put o.dst (.slice (some ⟨g, 0, none⟩) 2 2)) w') : wpList Tryd.prog ops Q (o :: rest) a W := by
  refine wpList_plain hgd fun _ hK => ?_
  unfold Oper.wp execOp
  simp only [ho, List.map_toArray, List.map_cons, List.map_nil, hx, hy, Sem.run_bind, run_bsM2, Result.andThen_ok]
  have hb := Blk.new W #[.slice A m c, .slice B n d] 23
  have hB := (Below.refl W.heap.size W).alloc (Nat.le_refl _) (.cells #[.slice A m c, .slice B n d] 23)
  refine hK _ _ (h W.heap.size _ ⟨rfl, fun _ => ⟨W.heap.size, 0, rfl, hb.lt, fun j hj => ?_⟩⟩ (Nat.le_refl _) hB)
  rcases (show j = 0 ∨ j = 1 by simp at hj; omega) with rfl | rfl
  · exact ⟨A, m, c, hb.cell 0, h1, h2, hr.below hB⟩
  · exact ⟨B, n, d, hb.cell 1, h3, h4, hs.below hB⟩
end
set_option maxRecDepth 100000 in
theorem depth_one : depth 1 = 0 := depth_is 1 0 (by decide) (.inl rfl)
set_option maxRecDepth 100000 in
theorem depth_2 : depth 2 = 1 := depth_is 2 1 (by decide) (.inr (by decide))
set_option maxRecDepth 100000 in
theorem claim_one : claim 1 0 [] [1] = [[1]] := by
  have hrg : rgt 1 0 ([] : List (List UInt8)).length = 0 := by
    unfold rgt
    rw [if_neg (by omega), show ((1 : Int)).toNat = 1 from rfl, depth_one]
    rfl
  unfold claim
  rw [if_neg (by rw [hrg]; simp)]
  rfl
set_option maxRecDepth 100000 in
theorem txs_one : txs [[1]] = [[1]] := by
  rw [← txsK_all, show ([[1]] : List (List UInt8)).length = 1 from rfl, depth_one, txsK_zero]
set_option maxRecDepth 100000 in
theorem ext_one : (ext (txs [[1]]) (claim 1 0 [] [1])).isSome = false := by
  rw [claim_one, txs_one]
  cases h : ext [[1]] [[1]] with
  | none => rfl
  | some p =>
    obtain ⟨a, b⟩ := p
    obtain ⟨h1, h2, h3, _⟩ := ext_some h
    rw [List.mem_singleton] at h1 h2
    exact absurd (h2.trans h1.symm) h3
set_option maxRecDepth 100000 in
theorem txs_two : txs [[1], [2]] = [[1], [2], tn (sums [[1], [2]]) 0 0] := by
  rw [← txsK_all, show ([[1], [2]] : List (List UInt8)).length = 2 from rfl, depth_2, ← txsJ_full]
  show txsJ [[1], [2]] 0 1 = _
  rw [txsJ_succ, txsJ_zero, txsK_zero]
  rfl
set_option maxRecDepth 100000 in
theorem tn_two : (tn (sums [[1], [2]]) 0 0).length = 64 := tn_len _ (sums_32 _) 0 0 (by rw [sums_len]; decide)
set_option maxRecDepth 100000 in
set_option maxHeartbeats 4000000 in
theorem awake10_calls (w : World) (hT : Tab w) (GT0 : ∀ (W : World) (A : Option Addr) (n c : Nat) (T : List (List UInt8)), RdM W A n T → Tab W → n ≤ 9 → n ≤ c → c ≤ maxLen → (∀ t ∈ T, t.length ≤ 200) → Calls Tryd.prog 11 #[.slice A n c] W fun e w' => ∃ A' c', e = .returned (.slice A' (txs T).length c') ∧ RdM w' A' (txs T).length (txs T) ∧ Below W.heap.size W w') (GC0 : ∀ (W : World) (AT AP : Option Addr) (k cT m cP : Nat) (c i : Int) (x : List UInt8) (P : List (List UInt8)), Rd W AT k x → RdH W AP m P → Tab W → k ≤ cT → cT ≤ maxLen → m ≤ cP → cP ≤ maxLen → k ≤ 200 → m ≤ 20 → Calls Tryd.prog 14 #[.slice AT k cT, .agg #[.int .i64 c, .int .i64 i, .slice AP m cP]] W fun e w' => ∃ A' c', e = .returned (.slice A' (claim c i P x).length c') ∧ RdM w' A' (claim c i P x).length (claim c i P x) ∧ Below W.heap.size W w') (GE0 : ∀ (W : World) (AL AT AP : Option Addr) (n cL k cT m cP : Nat) (c i : Int) (T : List (List UInt8)) (x : List UInt8) (P : List (List UInt8)), RdM W AL n T → Rd W AT k x → RdH W AP m P → Tab W → n ≤ 9 → n ≤ cL → cL ≤ maxLen → k ≤ cT → cT ≤ maxLen → m ≤ cP → cP ≤ maxLen → k ≤ 200 → m ≤ 20 → (∀ t ∈ T, t.length ≤ 200) → Calls Tryd.prog 17 #[.slice AL n cL, .slice AT k cT, .agg #[.int .i64 c, .int .i64 i, .slice AP m cP]] W fun e w' => ∃ A1 n1 c1 A2 n2 c2, e = .returned (.tuple #[.slice A1 n1 c1, .slice A2 n2 c2, .bool (ext (txs T) (claim c i P x)).isSome]) ∧ (Rd w' A1 n1 (exA (ext (txs T) (claim c i P x))) ∧ n1 ≤ c1 ∧ c1 ≤ maxLen) ∧ (Rd w' A2 n2 (exB (ext (txs T) (claim c i P x))) ∧ n2 ≤ c2 ∧ c2 ≤ maxLen) ∧ Below W.heap.size W w') : Calls Tryd.prog 9 #[] w (Ret w (.bool true)) := by
  have BRB : ∀ W, (Instr.build 26 #[(0, .int .i64 1)]).run Tryd.prog W = .ok (.agg #[.int .i64 1, .int .i64 0, .slice none 0 0]) W := fun W => run_build W _ _ _ (by kernel_rfl)
  obtain ⟨X, hX⟩ : ∃ X, X = tn (sums [[1], [2]]) 0 0 := ⟨_, rfl⟩
  have X64 : X.length = 64 := by rw [hX]; exact tn_two
  have GE : Hid (∀ (W : World) (A1 A2 : Option Addr) (c1 c2 : Nat), Below w.heap.size w W → RdM W A1 1 [[1]] → 1 ≤ c1 → c1 ≤ maxLen → Rd W A2 1 [1] → 1 ≤ c2 → c2 ≤ maxLen → Calls Tryd.prog 17 #[.slice A1 1 c1, .slice A2 1 c2, .agg #[.int .i64 1, .int .i64 0, .slice none 0 0]] W fun e w' => ∃ v1 v2, e = .returned (.tuple #[v1, v2, .bool false]) ∧ Below W.heap.size W w') := Lib.hid fun W A1 A2 c1 c2 h1 h2 h3 h4 h5 h6 h7 => by
    refine (GE0 W A1 A2 none 1 c1 1 c2 0 0 1 0 [[1]] [1] [] h2 h5 (RdH.nil _ _) (hT.all h1) (by omega) h3 h4 h6 h7 (by omega) (by unfold maxLen; omega) (by omega) (by omega) (by intro t ht; simp at ht; rw [ht]; simp)).mono ?_
    rintro e w' ⟨B1, n1, d1, B2, n2, d2, rfl, _, _, hb⟩
    rw [ext_one]
    exact ⟨_, _, rfl, hb⟩
  have GT : Hid (∀ (W : World) (A1 : Option Addr) (c1 : Nat), Below w.heap.size w W → RdM W A1 2 [[1], [2]] → 2 ≤ c1 → c1 ≤ maxLen → Calls Tryd.prog 11 #[.slice A1 2 c1] W fun e w' => ∃ bx ox c' A3 m3 c3, e = .returned (.slice (some ⟨bx, ox, none⟩) 3 c') ∧ bx < w'.heap.size ∧ w'.cell? ⟨bx, ox + 2, none⟩ = some (.slice A3 64 c3) ∧ Below W.heap.size W w') := Lib.hid fun W A1 c1 h1 h2 h3 h4 => by
    have := GT0 W A1 2 c1 [[1], [2]] h2 (hT.all h1) (by omega) h3 h4 (by intro t ht; simp at ht; rcases ht with rfl | rfl <;> simp)
    rw [txs_two] at this
    refine this.mono ?_
    rintro e w' ⟨A', c', rfl, hr, hb⟩
    have hlt : ∃ b off, A' = some ⟨b, off, none⟩ ∧ b < w'.heap.size := by
      obtain ⟨b, off, e, hl, _⟩ := hr.2 (by decide)
      exact ⟨b, off, e, hl⟩
    obtain ⟨b, off, A3, m3, c3, hl, rfl, hc, _, _, hrd⟩ := hr.at_ (k := 2) (by decide)
    obtain ⟨b', off', e', hlt⟩ := hlt
    injection e' with e'
    obtain ⟨rfl, rfl⟩ : b = b' ∧ off = off' := by injection e' with q1 q2; exact ⟨q1, q2⟩
    have h64 : 64 = m3 := by rw [← tn_two]; exact hrd.1
    subst h64
    exact ⟨b, off, c', A3, 64, c3, rfl, hlt, hc, hb⟩
  have GC : Hid (∀ (W : World) (A2 : Option Addr) (c2 : Nat), Below w.heap.size w W → Rd W A2 1 [1] → 1 ≤ c2 → c2 ≤ maxLen → Calls Tryd.prog 14 #[.slice A2 1 c2, .agg #[.int .i64 1, .int .i64 0, .slice none 0 0]] W fun e w' => ∃ A' c', e = .returned (.slice A' 1 c') ∧ Below W.heap.size W w') := Lib.hid fun W A2 c2 h1 h5 h6 h7 => by
    have := GC0 W A2 none 1 c2 0 0 1 0 [1] [] h5 (RdH.nil _ _) (hT.all h1) h6 h7 (by omega) (by unfold maxLen; omega) (by omega) (by omega)
    rw [claim_one] at this
    refine this.mono ?_
    rintro e w' ⟨A', c', rfl, _, hb⟩
    exact ⟨A', c', rfl, hb⟩
  clear hX GT0 GC0 GE0 hT
  have mx : 1 ≤ maxLen := by unfold maxLen; omega
  have mx2 : 2 ≤ maxLen := by unfold maxLen; omega
  go_enter Tryd.func9, Tryd.ntmps9
  go_upto_region 2 with (first
    | ((with_reducible refine at_bldZ 26 #[(0, .const (.int .i64 1))] ?_); refine wpList_bld rfl 26 _ rfl #[(0, .int .i64 1)] (.agg #[.int .i64 1, .int .i64 0, .slice none 0 0]) (by first | rfl | simp [Act.eval]) BRB ?_)
    | ((with_reducible refine at_alloc 26 ?_); refine wpList_allocT rfl 26 [.int .i64 0, .int .i64 0, .slice none 0 0] Z3b rfl w.heap.size w (Below.refl _ _) (Nat.le_refl _) ?_; intro g1 x0 hb0 hg1 hl0 hf0 hB0)
    | ((with_reducible refine at_store 26 (.tmp 1) (.tmp 6) ?_); refine wpList_store_blk rfl 26 (.tmp 1) (.tmp 6) rfl g1 [.int .i64 0, .int .i64 0, .slice none 0 0] [.int .i64 1, .int .i64 0, .slice none 0 0] 26 rfl rfl hb0 rfl I3b (by simp [Value.oneCell']) ?_; intro x1 hk1 ho1))
  have hB1 : Below w.heap.size w x1 := hB0.trans (ho1.below (by omega))
  clear hb0 hf0 hB0 ho1
  go_upto_region 3 with (first
    | ((with_reducible refine at_bsP 23 1 #[(0, .const (.int .u8 1))] ?_); first
      | (with_reducible refine id ?_; have hmark := hrA; refine wpList_bsU rfl 1 (.const (.int .u8 1)) rfl (by first | rfl | simp [Act.eval]) ?_; intro g5 x5 hrC hgC hBC; have hB5 := below_more hB4 hBC)
      | (refine wpList_bsU rfl 1 (.const (.int .u8 1)) rfl (by first | rfl | simp [Act.eval]) ?_; intro g3 x3 hrA hgA hBA; have hB3 := below_more hB1 hBA))
    | ((with_reducible refine at_bsP 22 1 #[(0, .tmp 8)] ?_); refine wpList_bsM rfl (.tmp 8) rfl (some ⟨g3, 0, none⟩) 1 1 [1] (by first | rfl | simp [Act.eval, Act.put]) hrA (by omega) mx ?_; intro g4 x4 hrB hgB hBB; have hB4 := below_more hB3 hBB)
    | ((with_reducible refine at_load 26 (.tmp 1) ?_); refine wpList_load_mid rfl 26 (.tmp 1) rfl g1 0 (by first | rfl | simp [Act.eval, Act.put]) [.int .i64 1, .int .i64 0, .slice none 0 0] _ (hk1.up (below_more (below_more hBA hBB) hBC)).range Tryd.underlying26 rfl I3b ?_)
    | (go_at_call 17; refine (GE.out _ (some ⟨g4, 0, none⟩) (some ⟨g5, 0, none⟩) 1 1 hB5 (hrB.below hBC) (by omega) mx hrC (by omega) mx).mono ?_; rintro e' x6 ⟨v1, v2, rfl, d6⟩; have hB6 := below_more hB5 d6))
  have hk6 := hk1.up (below_more (below_more (below_more hBA hBB) hBC) d6)
  clear hk1 hrA hrB hrC hBA hBB hBC d6
  go_upto_region 4 with (first
    | ((with_reducible refine at_bsP 23 1 #[(0, .const (.int .u8 1))] ?_); refine wpList_bsU rfl 1 (.const (.int .u8 1)) rfl (by first | rfl | simp [Act.eval]) ?_; intro g7 x7 hr7 hg7 hB7; have hB7w := below_more hB6 hB7)
    | ((with_reducible refine at_bsP 23 1 #[(0, .const (.int .u8 2))] ?_); refine wpList_bsU rfl 2 (.const (.int .u8 2)) rfl (by first | rfl | simp [Act.eval]) ?_; intro g8 x8 hr8 hg8 hB8; have hB8w := below_more hB7w hB8)
    | ((with_reducible refine at_bsP 22 2 #[(0, .tmp 16), (1, .tmp 17)] ?_); refine wpList_bsM2 rfl (.tmp 16) (.tmp 17) rfl (some ⟨g7, 0, none⟩) (some ⟨g8, 0, none⟩) 1 1 1 1 [1] [2] (by first | rfl | simp [Act.eval, Act.put]) (by first | rfl | simp [Act.eval, Act.put]) (hr7.below hB8) hr8 (by omega) mx (by omega) mx ?_; intro g9 x9 hr9 hg9 hB9; have hB9w := below_more hB8w hB9)
    | (go_at_call 11; refine (GT.out _ (some ⟨g9, 0, none⟩) 2 hB9w hr9 (by omega) mx2).mono ?_; rintro e' x10 ⟨bx, ox, c', A3, m3, c3, rfl, hbx, hcx, d10⟩; have hB10 := below_more hB9w d10))
  have hka := hk6.up (below_more (below_more (below_more hB7 hB8) hB9) d10)
  have KB := hka.range
  clear hk6 hr7 hr8 hr9 hB7 hB8 hB9 d10
  go_wp2_with (first
    | ((with_reducible refine at_bsG 23 1 #[(0, .const (.int .u8 1))] ?_); refine wpList_bsUG ?_ 1 (.const (.int .u8 1)) rfl (by first | rfl | simp [Act.eval]) ?_; (focus (simp [Region.wanted, yielded, Act.put]; done)); intro gc xc hrc hgc hBc; have hBcw := below_more hB10 hBc)
    | ((with_reducible refine at_loadG 26 (.tmp 1) ?_); refine load_midG ?_ 26 (.tmp 1) rfl g1 0 (by first | rfl | simp [Act.eval, Act.put]) [.int .i64 1, .int .i64 0, .slice none 0 0] _ (hka.up hBc).range Tryd.underlying26 rfl I3b ?_; (focus (simp [Region.wanted, yielded, Act.put]; done)))
    | (go_at_call 14; refine (GC.out _ (some ⟨gc, 0, none⟩) 1 hBcw hrc (by omega) mx).mono ?_; rintro e' xd ⟨Ad, cd, rfl, dd⟩; have hBd := below_more hBcw dd))
  go_ret
  exact ⟨rfl, hBd⟩
end Go.Proofs.YtpoinhjkdgcnaaaDoor
