/- Merged texts: ClaA ClaB. -/
import Derived.Test.YtpoinhjkdgcnaaaDoorMba
import Derived.Test.YtpoinhjkdgcnaaaDoorMab
import Derived.Test.YtpoinhjkdgcnaaaDoorMag
import Derived.Test.YtpoinhjkdgcnaaaDoorMau
import Derived.Test.YtpoinhjkdgcnaaaDoorMah
import Derived.Test.YtpoinhjkdgcnaaaDoorMaq
import Derived.Deep.RegionHeld3
/- Slices of strings: what they read, how they grow; the contracts of layer 10's own texts and sums. -/
namespace Go.Proofs.YtpoinhjkdgcnaaaDoor
open Go.RowKit
set_option linter.unusedVariables false
set_option linter.unusedSimpArgs false

/-- A text as a string. -/
def STR (l : List UInt8) : Value := .string ⟨l.toArray⟩
/-- The slice of n strings that begins at A reads the texts L. -/
def RdS (w : World) (A : Option Addr) (n : Nat) (L : List (List UInt8)) : Prop :=
  L.length = n ∧ (0 < n → ∃ b off, A = some ⟨b, off, none⟩ ∧ b < w.heap.size ∧ ∀ i, i < n → w.cell? ⟨b, off + i, none⟩ = some (STR (hat L i)))
set_option maxRecDepth 100000 in
theorem RdS.len {w : World} {A : Option Addr} {n : Nat} {L : List (List UInt8)} (h : RdS w A n L) : L.length = n := h.1
set_option maxRecDepth 100000 in
theorem RdS.at_ {w : World} {A : Option Addr} {n : Nat} {L : List (List UInt8)} (h : RdS w A n L) {k : Nat} (hk : k < n) : ∃ b off, A = some ⟨b, off, none⟩ ∧ b < w.heap.size ∧ w.cell? ⟨b, off + k, none⟩ = some (STR (hat L k)) := by
  obtain ⟨b, off, e, hb, hc⟩ := h.2 (by omega)
  exact ⟨b, off, e, hb, hc k hk⟩
set_option maxRecDepth 100000 in
theorem RdS.below {w W : World} {A : Option Addr} {n : Nat} {L : List (List UInt8)} (h : RdS w A n L) (hb : Below w.heap.size w W) : RdS W A n L :=
  ⟨h.1, fun hn => by
    obtain ⟨b, off, e, hlt, hc⟩ := h.2 hn
    exact ⟨b, off, e, Nat.lt_of_lt_of_le hlt hb.size, fun i hi => (hb.cell (p := ⟨b, off + i, none⟩) hlt).trans (hc i hi)⟩⟩
/-- A slice of strings that the call made. -/
def OwnS (w : World) (base : Nat) (A : Option Addr) (n c : Nat) (L : List (List UInt8)) : Prop := L.length = n ∧ w.ownsRow base 9 1 (.slice A n c) n (L.map STR)
set_option maxRecDepth 100000 in
theorem OwnS.nil (w : World) (base : Nat) : OwnS w base none 0 0 [] := ⟨rfl, World.ownsRow_nil _ _ _ _⟩
set_option maxRecDepth 100000 in
theorem OwnS.len {w : World} {base n c : Nat} {A : Option Addr} {L : List (List UInt8)} (h : OwnS w base A n c L) : L.length = n := h.1
set_option maxRecDepth 100000 in
theorem OwnS.rd {w : World} {base n c : Nat} {A : Option Addr} {L : List (List UInt8)} (h : OwnS w base A n c L) : RdS w A n L := by
  obtain ⟨h1, h3⟩ := h
  refine ⟨h1, fun hn => ?_⟩
  rcases h3.2 with ⟨_, h0⟩ | ⟨g, cap, cur, hv, _, hg, hnc, _, hcs, hct⟩
  · omega
  · injection hv with e1
    refine ⟨g, 0, e1, (Array.getElem?_eq_some_iff.1 hg).1, fun i hi => ?_⟩
    rw [Nat.zero_add, cell_of_row w g i cur 9 (0, 0) hg]
    have e2 : cur[i]? = (L.map STR)[i]? := by
      rw [← hct, List.getElem?_take, if_pos (by omega)]
      simp
    rw [e2, List.getElem?_map]
    unfold hat
    rw [List.getD_eq_getElem?_getD, List.getElem?_eq_getElem (by omega)]
    rfl
set_option maxRecDepth 100000 in
theorem OwnS.up {w W : World} {b n c : Nat} {A : Option Addr} {L : List (List UInt8)} (h : OwnS w b A n c L) (hb : Below w.heap.size w W) : OwnS W b A n c L := by
  obtain ⟨h1, h3, h4⟩ := h
  refine ⟨h1, h3, ?_⟩
  rcases h4 with h | ⟨g, cap, cur, e1, e2, e3, e4⟩
  · exact .inl h
  · exact .inr ⟨g, cap, cur, e1, e2, (hb.block g (Array.getElem?_eq_some_iff.1 e3).1).trans e3, e4⟩
set_option maxRecDepth 100000 in
theorem OwnS.frm {w W : World} {b n c : Nat} {A : Option Addr} {L : List (List UInt8)} {P : Nat → Prop} (h : OwnS w b A n c L) (hf : Frm P w W) (hS : ∀ g, blkOf A = some g → ¬ P g) : OwnS W b A n c L := by
  obtain ⟨h1, h3, h4⟩ := h
  refine ⟨h1, h3, ?_⟩
  rcases h4 with h | ⟨g, cap, cur, e1, e2, e3, e4⟩
  · exact .inl h
  · have hA : blkOf A = some g := by injection e1 with e5; rw [e5]; rfl
    exact .inr ⟨g, cap, cur, e1, e2, (hf.block g (Array.getElem?_eq_some_iff.1 e3).1 (hS g hA)).trans e3, e4⟩
set_option maxRecDepth 100000 in
theorem OwnS.cap {w : World} {b n c : Nat} {A : Option Addr} {L : List (List UInt8)} (h : OwnS w b A n c L) : n ≤ c ∧ c ≤ maxLen := by
  rcases h.2.2 with ⟨h, h0⟩ | ⟨g, cap, cur, e1, _, _, h2, h3, _⟩
  · injection h with _ _ e
    subst e
    exact ⟨by omega, by unfold maxLen; omega⟩
  · injection e1 with _ _ e
    subst e
    exact ⟨h2, h3⟩
set_option maxRecDepth 100000 in
/-- A row of strings is no row of another type. -/
theorem OwnS.ne_blk {w : World} {b n c g : Nat} {t : TypeId} {A : Option Addr} {L : List (List UInt8)} {cs : List Value} (h : OwnS w b A n c L) (hb : Blk w g cs t) (hne : 9 ≠ t) : ∀ k, blkOf A = some k → k ≠ g := fun k hk hkg => by
  rcases h.2.2 with ⟨hv, _⟩ | ⟨g', cap, cur, hv, _, hr, _⟩
  · injection hv with e1; rw [e1] at hk; simp [blkOf] at hk
  · injection hv with e1
    rw [e1] at hk
    have e2 : g' = k := by simpa [blkOf] using hk
    rw [e2, hkg] at hr
    have hb' : w.heap[g]? = some (.cells cs.toArray t (0, 0)) := hb
    rw [hb'] at hr
    injection hr with e3
    injection e3 with _ e4
    exact hne e4.symm
set_option maxRecDepth 100000 in
theorem OwnS.blkge {w : World} {b n c g : Nat} {A : Option Addr} {L : List (List UInt8)} (h : OwnS w b A n c L) (hg : blkOf A = some g) : b ≤ g ∧ g < w.heap.size := by
  rcases h.2.2 with ⟨hv, _⟩ | ⟨g', cap, cur, hv, hb, hr, _⟩
  · injection hv with e1; rw [e1] at hg; simp [blkOf] at hg
  · injection hv with e1
    rw [e1] at hg
    have : g' = g := by simpa [blkOf] using hg
    have := (Array.getElem?_eq_some_iff.1 hr).1
    omega
set_option maxRecDepth 100000 in
theorem infoS : (Tryd.prog.info? 9).map (fun i => (i.zero, i.size, i.bytes)) = some (some (.string ByteArray.empty), 1, 16) := by kernel_rfl
set_option maxRecDepth 100000 in
theorem run_bsS (l : List UInt8) (W : World) : (Instr.buildSlice 33 1 #[(0, STR l)]).run Tryd.prog W = .ok (.slice (some ⟨W.heap.size, 0, none⟩) 1 1) (W.alloc (.cells #[STR l] 9)) := by
  obtain ⟨i, hi, hzz⟩ := Option.map_eq_some_iff.1 infoS
  simp only [Prod.mk.injEq] at hzz
  obtain ⟨hz, hsz, _⟩ := hzz
  refine run_buildSlice W 33 9 1 _ #[STR l] i (.string ByteArray.empty) Tryd.underlying33 hi hz (by rw [hsz]; decide) (by rw [hsz]; decide) ?_
  rw [hsz]
  have hz0 : (Array.range (1 * 1)).map ((Value.string ByteArray.empty).cells[· % (Value.string ByteArray.empty).cells.size]!) = [Value.string ByteArray.empty].toArray := by kernel_rfl
  rw [hz0]
  show Instr.fill (fun i => some (i * 1, 1)) [Value.string ByteArray.empty].toArray [(0, STR l)] = some #[STR l]
  rw [fill_step _ _ [STR l] 0 0 _ _ (by rfl) rfl (by simp), over_one _ _ _ (by simp), List.set_cons_zero]
  rfl
section
variable {ops : Array Oper} {rest : List Oper} {o : Oper} {a : Act} {W : World} {Q : Exit → Act → World → Prop} {K : Act → World → Prop}
set_option maxRecDepth 100000 in
theorem wp_bsS (x : Operand) (ho : o.op = .buildSlice 33 1 #[(0, x)]) (l : List UInt8) (hx : a.eval x = STR l)
    (h : ∀ g w', Blk w' g [STR l] 9 → W.heap.size ≤ g → g < w'.heap.size → Frm (fun _ => False) W w' → Below W.heap.size W w' → K (a.put o.dst (.slice (some ⟨g, 0, none⟩) 1 1)) w') : o.wp Tryd.prog a W K Q := by
  unfold Oper.wp execOp
  simp only [ho, List.map_toArray, List.map_cons, List.map_nil, hx, Sem.run_bind, run_bsS, Result.andThen_ok]
  exact h W.heap.size _ (Blk.new W _ _) (Nat.le_refl _) (by simp) (Frm.of_below ((Below.refl _ W).alloc (Nat.le_refl _) _)) ((Below.refl _ W).alloc (Nat.le_refl _) _)
set_option maxRecDepth 100000 in
theorem wpList_bsS (hgd : o.guard = none) (x : Operand) (ho : o.op = .buildSlice 33 1 #[(0, x)]) (l : List UInt8) (hx : a.eval x = STR l)
    (h : ∀ g w', Blk w' g [STR l] 9 → W.heap.size ≤ g → g < w'.heap.size → Frm (fun _ => False) W w' → Below W.heap.size W w' → wpList Tryd.prog ops Q rest (a.put o.dst (.slice (some ⟨g, 0, none⟩) 1 1)) w') : wpList Tryd.prog ops Q (o :: rest) a W :=
  wpList_plain hgd fun _ hK => wp_bsS x ho l hx (fun g w' h1 h2 h3 h4 h5 => hK _ _ (h g w' h1 h2 h3 h4 h5))
set_option maxRecDepth 100000 in
/-- append of one string. -/
theorem wp_appS (s x : Operand) (ho : o.op = .call { callee := .builtin .append, args := #[s, x], argTypes := #[33, 33] })
    (base : Nat) (w : World) (hb : Below base w W) (hbase : base ≤ w.heap.size) (A : Option Addr) (n c : Nat) (L : List (List UInt8)) (hs : a.eval s = .slice A n c) (hown : OwnS W base A n c L) (g : Nat) (l : List UInt8) (hx : a.eval x = .slice (some ⟨g, 0, none⟩) 1 1) (hg : Blk W g [STR l] 9)
    (hn : n ≤ 1000000) (h : ∀ A' c' w', OwnS w' base A' (n + 1) c' (L ++ [l]) → Frm (fun i => blkOf A = some i) W w' → Below base w w' → K (a.put o.dst (.slice A' (n + 1) c')) w') : o.wp Tryd.prog a W K Q := by
  have hbW : base ≤ W.heap.size := Nat.le_trans hbase hb.size
  refine wpo_appG W s x 33 ho 9 (.string ByteArray.empty) 16 Tryd.underlying33 infoS rfl base _ n _ hs hown.2 (some ⟨g, 0, none⟩) 1 1 [STR l] hx rfl (fun _ => ⟨_, rfl, fun j u hu => ?_⟩) (by simp [STR, Value.oneCell']) (by unfold maxLen; omega) (by omega) hbW (fun A' c' w' h1 h2 h3 h4 => ?_)
  · rw [Addr.add_mid, Nat.zero_add, hg.cell, hu]
  · exact h A' c' w' ⟨by simp [hown.1], by simpa using h1⟩ (frm_grownH h4) (hb.trans h2)
set_option maxRecDepth 100000 in
theorem wpList_appS (hgd : o.guard = none) (s x : Operand) (ho : o.op = .call { callee := .builtin .append, args := #[s, x], argTypes := #[33, 33] })
    (base : Nat) (w : World) (hb : Below base w W) (hbase : base ≤ w.heap.size) (A : Option Addr) (n c : Nat) (L : List (List UInt8)) (hs : a.eval s = .slice A n c) (hown : OwnS W base A n c L) (g : Nat) (l : List UInt8) (hx : a.eval x = .slice (some ⟨g, 0, none⟩) 1 1) (hg : Blk W g [STR l] 9)
    (hn : n ≤ 1000000) (h : ∀ A' c' w', OwnS w' base A' (n + 1) c' (L ++ [l]) → Frm (fun i => blkOf A = some i) W w' → Below base w w' → wpList Tryd.prog ops Q rest (a.put o.dst (.slice A' (n + 1) c')) w') : wpList Tryd.prog ops Q (o :: rest) a W :=
  wpList_plain hgd fun _ hK => wp_appS s x ho base w hb hbase A n c L hs hown g l hx hg hn (fun A' c' w' h1 h2 h3 => hK _ _ (h A' c' w' h1 h2 h3))
end
set_option maxRecDepth 100000 in
theorem take_hat (T : List (List UInt8)) (t : Nat) (h : t < T.length) : T.take (t + 1) = T.take t ++ [hat T t] := by
  rw [List.take_succ_eq_append_getElem h]
  congr 1
  unfold hat
  rw [List.getD_eq_getElem?_getD, List.getElem?_eq_getElem h]
  rfl
set_option maxRecDepth 100000 in
set_option maxHeartbeats 4000000 in
theorem texts_calls (A : Option Addr) (n c : Nat) (T : List (List UInt8)) (w : World) (hr : RdM w A n T) (hn : n ≤ 1000) :
    Calls Tryd.prog 13 #[.slice A n c] w fun e w' => ∃ A' c', e = .returned (.slice A' n c') ∧ OwnS w' w.heap.size A' n c' T ∧ Below w.heap.size w w' := by
  have hln := hr.len
  have HR := Lib.hid hr
  clear hr
  go_enter Tryd.func13, Tryd.ntmps13
  go_wp2
  go_loopw [3, 8] (fun ov kv wr => ∃ (t : Nat) (A' : Option Addr) (c' : Nat), kv = .int .i64 (t : Int) ∧ ov = .slice A' t c' ∧ t ≤ n ∧ OwnS wr w.heap.size A' t c' (T.take t) ∧ Below w.heap.size w wr) (fun _ kv _ => n - (intOf kv).toNat)
  case atStart => exact ⟨0, none, 0, by first | rfl | go_num, rfl, by omega, by rw [List.take_zero]; exact OwnS.nil _ _, Below.refl _ _⟩
  case round =>
    obtain ⟨t, A', c', rfl, rfl, htn, hown, hbel⟩ := hrel
    obtain ⟨wo, hwo⟩ : ∃ x, x = wr := ⟨_, rfl⟩
    rw [← hwo] at hown hbel ⊢
    clear hwo
    by_cases hlt : t < n
    · have hlt' : (t : Int) < (n : Int) := by omega
      obtain ⟨b, off, A2, m, c2, hl, rfl, sc, h1, h2, hrd⟩ := (HR.out.below hbel).at_ hlt
      have hnx := take_hat T t (by omega)
      obtain ⟨x, hx⟩ : ∃ x, x = hat T t := ⟨_, rfl⟩
      have hTx : T[t] = x := by rw [hx]; unfold hat; rw [List.getD_eq_getElem?_getD, List.getElem?_eq_getElem hl]; rfl
      rw [hTx] at hrd
      rw [← hx] at hnx
      have HNX := Lib.hid hnx
      have hcv := conv8 wo A2 m c2 x hrd
      obtain ⟨X, hX⟩ : ∃ V, V = STR x := ⟨_, rfl⟩
      have hcv' : (convert 23 9 (.slice A2 m c2)).run Tryd.prog wo = .ok X wo := by rw [hX]; exact hcv
      obtain ⟨T', hT'⟩ : ∃ T', T' = T.take t := ⟨_, rfl⟩
      rw [← hT'] at hown
      have HT' := Lib.hid hT'
      clear hnx hx hTx hrd hcv hT'
      go_wp2_with (first
        | ((with_reducible refine at_bsP 33 1 #[(0, .tmp 14)] ?_); refine wpList_bsS rfl (.tmp 14) rfl x (by first | rfl | exact hX | (simp [Act.eval]; done) | (simp [Act.eval]; exact hX)) ?_; intro g w1 hb1 hg1 hl1 hf1 hB1)
        | ((with_reducible refine at_app 33 (.tmp 12) (.tmp 15) ?_); refine wpList_appS rfl (.tmp 12) (.tmp 15) rfl w.heap.size w (below_more hbel hB1) (Nat.le_refl _) A' t c' T' (by first | rfl | simp [Act.eval]) (hown.up hB1) g x (by first | rfl | simp [Act.eval]) hb1 (by omega) ?_; intro A3 c3 w3 ho3 hf3 hB3))
      go_roundw
      case rel => exact ⟨t + 1, A3, c3, by go_num, rfl, by omega, by rw [HNX.out, ← HT'.out]; exact ho3, hB3⟩
      case measure => simp [intOf]; omega
    · have hlt' : ¬ (t : Int) < (n : Int) := by omega
      have e : t = n := by omega
      subst e
      rw [List.take_of_length_le (by omega)] at hown
      have HO := Lib.hid hown
      clear hown
      go_wp2
      go_ret
      exact ⟨A', c', rfl, HO.out, hbel⟩
end Go.Proofs.YtpoinhjkdgcnaaaDoor

/- A slice of one byte slice; arrays of 32 appended, with the frame; the contracts of layer 10's own sums and same. -/
namespace Go.Proofs.YtpoinhjkdgcnaaaDoor
open Go.RowKit
set_option linter.unusedVariables false
set_option linter.unusedSimpArgs false

set_option maxRecDepth 100000 in
theorem infoB : (Tryd.prog.info? 23).map (fun i => (i.zero, i.size, i.bytes)) = some (some (.slice none 0 0), 1, 24) := by kernel_rfl
set_option maxRecDepth 100000 in
theorem run_bsM (A : Option Addr) (m c : Nat) (W : World) : (Instr.buildSlice 22 1 #[(0, .slice A m c)]).run Tryd.prog W = .ok (.slice (some ⟨W.heap.size, 0, none⟩) 1 1) (W.alloc (.cells #[.slice A m c] 23)) := by
  obtain ⟨i, hi, hzz⟩ := Option.map_eq_some_iff.1 infoB
  simp only [Prod.mk.injEq] at hzz
  obtain ⟨hz, hsz, _⟩ := hzz
  refine run_buildSlice W 22 23 1 _ #[.slice A m c] i (.slice none 0 0) Tryd.underlying22 hi hz (by rw [hsz]; decide) (by rw [hsz]; decide) ?_
  rw [hsz]
  have hz0 : (Array.range (1 * 1)).map ((Value.slice none 0 0).cells[· % (Value.slice none 0 0).cells.size]!) = [Value.slice none 0 0].toArray := by kernel_rfl
  rw [hz0]
  show Instr.fill (fun i => some (i * 1, 1)) [Value.slice none 0 0].toArray [(0, .slice A m c)] = some #[.slice A m c]
  rw [fill_step _ _ [.slice A m c] 0 0 _ _ (by rfl) rfl (by simp), over_one _ _ _ (by simp), List.set_cons_zero]
  rfl
section
variable {ops : Array Oper} {rest : List Oper} {o : Oper} {a : Act} {W : World} {Q : Exit → Act → World → Prop} {K : Act → World → Prop}
set_option maxRecDepth 100000 in
theorem wp_bsM (x : Operand) (ho : o.op = .buildSlice 22 1 #[(0, x)]) (A : Option Addr) (m c : Nat) (l : List UInt8) (hx : a.eval x = .slice A m c) (hr : Rd W A m l) (h1 : m ≤ c) (h2 : c ≤ maxLen)
    (h : ∀ g w', RdM w' (some ⟨g, 0, none⟩) 1 [l] → W.heap.size ≤ g → Below W.heap.size W w' → K (a.put o.dst (.slice (some ⟨g, 0, none⟩) 1 1)) w') : o.wp Tryd.prog a W K Q := by
  unfold Oper.wp execOp
  simp only [ho, List.map_toArray, List.map_cons, List.map_nil, hx, Sem.run_bind, run_bsM, Result.andThen_ok]
  have hb := Blk.new W #[.slice A m c] 23
  have hB := (Below.refl W.heap.size W).alloc (Nat.le_refl _) (.cells #[.slice A m c] 23)
  refine h W.heap.size _ ⟨rfl, fun _ => ⟨W.heap.size, 0, rfl, hb.lt, fun j hj => ?_⟩⟩ (Nat.le_refl _) hB
  have e : j = 0 := by simp at hj; exact hj
  subst e
  exact ⟨A, m, c, hb.cell 0, h1, h2, hr.below hB⟩
set_option maxRecDepth 100000 in
theorem wpList_bsM (hgd : o.guard = none) (x : Operand) (ho : o.op = .buildSlice 22 1 #[(0, x)]) (A : Option Addr) (m c : Nat) (l : List UInt8) (hx : a.eval x = .slice A m c) (hr : Rd W A m l) (h1 : m ≤ c) (h2 : c ≤ maxLen)
    (h : ∀ g w', RdM w' (some ⟨g, 0, none⟩) 1 [l] → W.heap.size ≤ g → Below W.heap.size W w' → wpList Tryd.prog ops Q rest (a.put o.dst (.slice (some ⟨g, 0, none⟩) 1 1)) w') : wpList Tryd.prog ops Q (o :: rest) a W :=
  wpList_plain hgd fun _ hK => wp_bsM x ho A m c l hx hr h1 h2 (fun g w' k1 k2 k3 => hK _ _ (h g w' k1 k2 k3))
set_option maxRecDepth 100000 in
/-- A slice of one array of 32. -/
theorem wp_bsE (t e : TypeId) (ht : Tryd.prog.underlying t = some (.slice e)) (hinfo : (Tryd.prog.info? e).map (fun i => (i.zero, i.size, i.bytes)) = some (some (.agg z32.toArray), 32, 32)) (x : Operand) (ho : o.op = .buildSlice t 1 #[(0, x)]) (V : List Value) (hx : a.eval x = .agg V.toArray) (hV : V.length = 32)
    (h : ∀ g w', Blk w' g V e → W.heap.size ≤ g → g < w'.heap.size → Frm (fun _ => False) W w' → Below W.heap.size W w' → K (a.put o.dst (.slice (some ⟨g, 0, none⟩) 1 1)) w') : o.wp Tryd.prog a W K Q := by
  unfold Oper.wp execOp
  simp only [ho, List.map_toArray, List.map_cons, List.map_nil, hx, Sem.run_bind, run_bs t e ht hinfo V hV W, Result.andThen_ok]
  exact h W.heap.size _ (Blk.new W _ _) (Nat.le_refl _) (by simp) (Frm.of_below ((Below.refl _ W).alloc (Nat.le_refl _) _)) ((Below.refl _ W).alloc (Nat.le_refl _) _)
set_option maxRecDepth 100000 in
theorem wpList_bsE (hgd : o.guard = none) (t e : TypeId) (ht : Tryd.prog.underlying t = some (.slice e)) (hinfo : (Tryd.prog.info? e).map (fun i => (i.zero, i.size, i.bytes)) = some (some (.agg z32.toArray), 32, 32)) (x : Operand) (ho : o.op = .buildSlice t 1 #[(0, x)]) (V : List Value) (hx : a.eval x = .agg V.toArray) (hV : V.length = 32)
    (h : ∀ g w', Blk w' g V e → W.heap.size ≤ g → g < w'.heap.size → Frm (fun _ => False) W w' → Below W.heap.size W w' → wpList Tryd.prog ops Q rest (a.put o.dst (.slice (some ⟨g, 0, none⟩) 1 1)) w') : wpList Tryd.prog ops Q (o :: rest) a W :=
  wpList_plain hgd fun _ hK => wp_bsE t e ht hinfo x ho V hx hV (fun g w' h1 h2 h3 h4 h5 => hK _ _ (h g w' h1 h2 h3 h4 h5))
set_option maxRecDepth 100000 in
/-- append of one array of 32, with the frame. -/
theorem wp_appE (t e : TypeId) (ht : Tryd.prog.underlying t = some (.slice e)) (hinfo : (Tryd.prog.info? e).map (fun i => (i.zero, i.size, i.bytes)) = some (some (.agg z32.toArray), 32, 32)) (s x : Operand) (ho : o.op = .call { callee := .builtin .append, args := #[s, x], argTypes := #[t, t] })
    (base : Nat) (w : World) (hb : Below base w W) (hbase : base ≤ w.heap.size) (A : Option Addr) (n c : Nat) (L : List (List UInt8)) (hs : a.eval s = .slice A n c) (hown : OwnH W base e A n c L) (g : Nat) (l : List UInt8) (V : List Value) (hV : V = l.map B8) (hl : l.length = 32) (hx : a.eval x = .slice (some ⟨g, 0, none⟩) 1 1) (hg : Blk W g V e)
    (hn : n ≤ 1000000) (h : ∀ A' c' w', OwnH w' base e A' (n + 1) c' (L ++ [l]) → Frm (fun i => blkOf A = some i) W w' → Below base w w' → K (a.put o.dst (.slice A' (n + 1) c')) w') : o.wp Tryd.prog a W K Q := by
  obtain ⟨i, hi, hzz⟩ := Option.map_eq_some_iff.1 hinfo
  simp only [Prod.mk.injEq] at hzz
  obtain ⟨hz, hsz, hby⟩ := hzz
  obtain ⟨h1, h2, h3⟩ := hown
  have hbW : base ≤ W.heap.size := Nat.le_trans hbase hb.size
  have h32 : V.length = 32 := by rw [hV, List.length_map, hl]
  obtain ⟨v', w', hrun, h4, h5, _, _⟩ := run_append_own_at (P := Tryd.prog) W base t o.type e i (.agg z32.toArray) 32 32 ht hi hz hsz hby rfl (by omega) _ n _ h3 ⟨g, 0, none⟩ 1 1 V (by rw [h32]) (fun j u hu => by rw [Addr.add_mid, Nat.zero_add, hg.cell, hu]) (fun u hu => by rw [hV] at hu; exact b8_one l u hu) (by unfold maxLen; omega) (by omega) hbW
  obtain ⟨A', c', rfl⟩ : ∃ A' c', v' = .slice A' (n + 1) c' := by
    rcases h4.2 with ⟨_, h0⟩ | ⟨g', cap, cur, rfl, _⟩
    · omega
    · exact ⟨_, _, rfl⟩
  have hblk : ∀ k, Value.ownBlock (.slice A n c) = some k → base ≤ k := fun k hk => by
    rcases h3.2 with ⟨hv, _⟩ | ⟨g', cap, cur, hv, hb', _⟩
    · injection hv with e1; rw [e1] at hk; simp [Value.ownBlock] at hk
    · injection hv with e1
      rw [e1] at hk
      have : g' = k := by simpa [Value.ownBlock] using hk
      omega
  unfold Oper.wp execOp
  simp only [ho, resolve, invoke, builtin, Sem.run_bind, Sem.run_pure, Result.andThen_ok, List.map_toArray, List.map_cons, List.map_nil, hs, hx, hrun]
  refine h A' c' w' ⟨by simp [h1], fun y hy => ?_, ?_⟩ (frm_grownH h5) (hb.trans ((Below.refl _ _).grown h5 hbW hblk))
  · rcases List.mem_append.1 hy with hy | hy
    · exact h2 y hy
    · simp at hy; rw [hy]; exact hl
  · rw [List.flatten_append, List.map_append]
    simp only [List.flatten_cons, List.flatten_nil, List.append_nil]
    rw [← hV]
    exact h4
set_option maxRecDepth 100000 in
theorem wpList_appE (hgd : o.guard = none) (t e : TypeId) (ht : Tryd.prog.underlying t = some (.slice e)) (hinfo : (Tryd.prog.info? e).map (fun i => (i.zero, i.size, i.bytes)) = some (some (.agg z32.toArray), 32, 32)) (s x : Operand) (ho : o.op = .call { callee := .builtin .append, args := #[s, x], argTypes := #[t, t] })
    (base : Nat) (w : World) (hb : Below base w W) (hbase : base ≤ w.heap.size) (A : Option Addr) (n c : Nat) (L : List (List UInt8)) (hs : a.eval s = .slice A n c) (hown : OwnH W base e A n c L) (g : Nat) (l : List UInt8) (V : List Value) (hV : V = l.map B8) (hl : l.length = 32) (hx : a.eval x = .slice (some ⟨g, 0, none⟩) 1 1) (hg : Blk W g V e)
    (hn : n ≤ 1000000) (h : ∀ A' c' w', OwnH w' base e A' (n + 1) c' (L ++ [l]) → Frm (fun i => blkOf A = some i) W w' → Below base w w' → wpList Tryd.prog ops Q rest (a.put o.dst (.slice A' (n + 1) c')) w') : wpList Tryd.prog ops Q (o :: rest) a W :=
  wpList_plain hgd fun _ hK => wp_appE t e ht hinfo s x ho base w hb hbase A n c L hs hown g l V hV hl hx hg hn (fun A' c' w' h1 h2 h3 => hK _ _ (h A' c' w' h1 h2 h3))
end
set_option maxRecDepth 100000 in
theorem one_flat (x : List UInt8) : ([x] : List (List UInt8)).flatten = x := by simp
set_option maxRecDepth 100000 in
set_option maxHeartbeats 4000000 in
theorem sums_calls (A : Option Addr) (n c : Nat) (T : List (List UInt8)) (w : World) (hr : RdM w A n T) (hT : Tab w) (hn : n ≤ 1000) (hT2 : ∀ t ∈ T, t.length ≤ 1000000) :
    Calls Tryd.prog 22 #[.slice A n c] w fun e w' => ∃ A' c', e = .returned (.slice A' n c') ∧ OwnH w' w.heap.size 47 A' n c' (sums T) ∧ Below w.heap.size w w' := by
  have hln := hr.len
  have HR := Lib.hid hr
  have HT := Lib.hid hT
  have HT2 := Lib.hid hT2
  clear hr hT hT2
  go_enter Tryd.func22, Tryd.ntmps22
  go_wp2
  go_loopw [3, 8] (fun ov kv wr => ∃ (t : Nat) (A' : Option Addr) (c' : Nat), kv = .int .i64 (t : Int) ∧ ov = .slice A' t c' ∧ t ≤ n ∧ OwnH wr w.heap.size 47 A' t c' ((sums T).take t) ∧ Below w.heap.size w wr) (fun _ kv _ => n - (intOf kv).toNat)
  case atStart => exact ⟨0, none, 0, by first | rfl | go_num, rfl, by omega, by rw [List.take_zero]; exact OwnH.nil _ _ _, Below.refl _ _⟩
  case round =>
    obtain ⟨t, A', c', rfl, rfl, htn, hown, hbel⟩ := hrel
    obtain ⟨wo, hwo⟩ : ∃ x, x = wr := ⟨_, rfl⟩
    rw [← hwo] at hown hbel ⊢
    clear hwo
    by_cases hlt : t < n
    · have hlt' : (t : Int) < (n : Int) := by omega
      obtain ⟨b, off, A2, m, c2, hl, rfl, sc, h1, h2, hrd⟩ := (HR.out.below hbel).at_ hlt
      have hnx := take_hat (sums T) t (by rw [sums_len]; omega)
      have hle : (T[t]).length ≤ 1000000 := HT2.out _ (List.getElem_mem hl)
      obtain ⟨x, hx⟩ : ∃ x, x = T[t] := ⟨_, rfl⟩
      obtain ⟨y, hy⟩ : ∃ y, y = ds x := ⟨_, rfl⟩
      have hTx : hat (sums T) t = y := by rw [sums_at T t (by omega), hy, hx]; unfold hat; rw [List.getD_eq_getElem?_getD, List.getElem?_eq_getElem hl]; rfl
      rw [← hx] at hrd hle
      rw [hTx] at hnx
      have HNX := Lib.hid hnx
      obtain ⟨Y, hY⟩ : ∃ V, V = y.map B8 := ⟨_, rfl⟩
      have y32 : y.length = 32 := by rw [hy]; exact ds_len _
      have HY := Lib.hid hY
      have HY32 := Lib.hid y32
      have LY : Hid (Y.length = 32) := Lib.hid (by rw [hY, List.length_map, y32])
      have CT : Hid (∀ (W : World) (g : Nat), RdM W (some ⟨g, 0, none⟩) 1 [x] → Below w.heap.size w W → Calls Tryd.prog 19 #[.slice (some ⟨g, 0, none⟩) 1 1] W (Ret W (.agg Y.toArray))) := Lib.hid fun W g k1 k2 => by
        have := twice_calls W (some ⟨g, 0, none⟩) 1 1 [x] k1 (HT.out.all k2) (by omega) (by rw [one_flat]; omega)
        rw [one_flat] at this
        rw [hY, hy]
        exact this
      obtain ⟨T', hT'⟩ : ∃ T', T' = (sums T).take t := ⟨_, rfl⟩
      rw [← hT'] at hown
      have HT' := Lib.hid hT'
      clear hnx hTx hT' hx hy hY y32
      go_wp2_with (first
        | ((with_reducible refine at_bsP 22 1 #[(0, .tmp 13)] ?_); refine wpList_bsM rfl (.tmp 13) rfl A2 m c2 x (by first | rfl | simp [Act.eval]) hrd h1 h2 ?_; intro g w1 hM1 hg1 hB1)
        | (go_at_call 19; refine (CT.out w1 g hM1 (below_more hbel hB1)).mono ?_; rintro e' w2 ⟨rfl, d2⟩)
        | ((with_reducible refine at_bsP 24 1 #[(0, .tmp 15)] ?_); refine wpList_bsE rfl 24 47 Tryd.underlying24 infoG (.tmp 15) rfl Y (by first | rfl | simp [Act.eval]) LY.out ?_; intro g3 w3 hb3 hg3 hl3 hf3 hB3)
        | ((with_reducible refine at_app 24 (.tmp 12) (.tmp 16) ?_); refine wpList_appE rfl 24 47 Tryd.underlying24 infoG (.tmp 12) (.tmp 16) rfl w.heap.size w (below_more (below_more (below_more hbel hB1) d2) hB3) (Nat.le_refl _) A' t c' T' (by first | rfl | simp [Act.eval]) (((hown.up hB1).up d2).up hB3) g3 y Y HY.out HY32.out (by first | rfl | simp [Act.eval]) hb3 (by omega) ?_; intro A3 c3 w4 ho4 hf4 hB4))
      go_roundw
      case rel => exact ⟨t + 1, A3, c3, by go_num, rfl, by omega, by rw [HNX.out, ← HT'.out]; exact ho4, hB4⟩
      case measure => simp [intOf]; omega
    · have hlt' : ¬ (t : Int) < (n : Int) := by omega
      have e : t = n := by omega
      subst e
      rw [List.take_of_length_le (by rw [sums_len]; omega)] at hown
      have HO := Lib.hid hown
      clear hown
      go_wp2
      go_ret
      exact ⟨A', c', rfl, HO.out, hbel⟩
set_option maxRecDepth 100000 in
theorem str_ne (x y : List UInt8) : decide ((⟨x.toArray⟩ : ByteArray) = ⟨y.toArray⟩) = decide (x = y) := by
  by_cases h : x = y
  · simp [h]
  · rw [decide_eq_false h, decide_eq_false]
    intro e
    injection e with e
    exact h (by simpa using e)
set_option maxRecDepth 100000 in
/-- Are two lists of texts one? -/
theorem list_same (T M : List (List UInt8)) (h : T.length = M.length) : T = M ↔ ∀ i, i < T.length → hat T i = hat M i := ⟨fun e i _ => by rw [e], fun hh => hat_ext h hh⟩
end Go.Proofs.YtpoinhjkdgcnaaaDoor
