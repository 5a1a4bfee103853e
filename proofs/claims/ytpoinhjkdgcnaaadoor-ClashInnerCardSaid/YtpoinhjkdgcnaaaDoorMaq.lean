/- Merged texts: MrkC MrkD MrkN. -/
import Derived.Test.YtpoinhjkdgcnaaaDoorMap
import Derived.Test.YtpoinhjkdgcnaaaDoorMam
import Derived.Maps.AppendAt
import Derived.Great.BuildSlice
import Derived.Test.YtpoinhjkdgcnaaaDoorMan
/- Slices of hashes that grow by append; the contract of the law's own refs of layer 8. -/
namespace Go.Proofs.YtpoinhjkdgcnaaaDoor
open Go.RowKit
set_option linter.unusedVariables false
set_option linter.unusedSimpArgs false

/-- A slice of hashes that the call made. -/
def OwnH (w : World) (base : Nat) (e : TypeId) (A : Option Addr) (n c : Nat) (L : List (List UInt8)) : Prop :=
  L.length = n ∧ (∀ h ∈ L, h.length = 32) ∧ w.ownsRow base e 32 (.slice A n c) n (L.flatten.map B8)
set_option maxRecDepth 100000 in
theorem flat_len : ∀ (L : List (List UInt8)), (∀ h ∈ L, h.length = 32) → L.flatten.length = L.length * 32
  | [], _ => rfl
  | h :: L, hl => by
    rw [List.flatten_cons, List.length_append, hl h (by simp), flat_len L (fun x hx => hl x (by simp [hx])), List.length_cons]
    omega
set_option maxRecDepth 100000 in
theorem flat_at : ∀ (L : List (List UInt8)) (i j : Nat), (∀ h ∈ L, h.length = 32) → i < L.length → j < 32 → L.flatten[i * 32 + j]? = (hat L i)[j]?
  | [], i, j, _, hi, _ => by simp at hi
  | h :: L, 0, j, hl, _, hj => by
    rw [List.flatten_cons, Nat.zero_mul, Nat.zero_add, List.getElem?_append_left (by rw [hl h (by simp)]; exact hj)]
    rfl
  | h :: L, i + 1, j, hl, hi, hj => by
    have h32 := hl h (by simp)
    rw [List.flatten_cons, List.getElem?_append_right (by rw [h32]; omega), h32, show (i + 1) * 32 + j - 32 = i * 32 + j from by omega, flat_at L i j (fun x hx => hl x (by simp [hx])) (by simpa using hi) hj]
    simp [hat]
set_option maxRecDepth 100000 in
theorem OwnH.nil (w : World) (base : Nat) (e : TypeId) : OwnH w base e none 0 0 [] := ⟨rfl, fun _ h => by simp at h, World.ownsRow_nil _ _ _ _⟩
set_option maxRecDepth 100000 in
theorem OwnH.rd {w : World} {base n c : Nat} {e : TypeId} {A : Option Addr} {L : List (List UInt8)} (h : OwnH w base e A n c L) : RdH w A n L := by
  obtain ⟨h1, h2, h3⟩ := h
  refine ⟨h1, h2, fun hn => ?_⟩
  rcases h3.2 with ⟨_, h0⟩ | ⟨g, cap, cur, hv, _, hg, hnc, _, hcs, hct⟩
  · omega
  · injection hv with e1
    refine ⟨g, 0, e1, (Array.getElem?_eq_some_iff.1 hg).1, fun i hi j v hv' => ?_⟩
    have h32 := hat_32 h2 (show i < L.length by omega)
    have hj : j < 32 := by have := (List.getElem?_eq_some_iff.1 hv').1; rw [List.length_map, h32] at this; exact this
    rw [Nat.zero_add, cell_of_row w g _ cur e (0, 0) hg]
    have hij : i * 32 + j < n * 32 := by omega
    have e2 : cur[i * 32 + j]? = (L.flatten.map B8)[i * 32 + j]? := by
      rw [← hct, List.getElem?_take, if_pos hij]
      simp
    rw [e2, List.getElem?_map, flat_at L i j h2 (by omega) hj, ← List.getElem?_map]
    exact hv'
set_option maxRecDepth 100000 in
theorem infoG : (Tryd.prog.info? 47).map (fun i => (i.zero, i.size, i.bytes)) = some (some (.agg z32.toArray), 32, 32) := by kernel_rfl
set_option maxRecDepth 100000 in
theorem infoR : (Tryd.prog.info? 46).map (fun i => (i.zero, i.size, i.bytes)) = some (some (.agg z32.toArray), 32, 32) := by kernel_rfl
set_option maxRecDepth 100000 in
/-- append of one hash. -/
theorem wp_appH {P : Program} {o : Oper} {a : Act} {w : World} {K : Act → World → Prop} {Q : Exit → Act → World → Prop} (s x : Operand) (t e : TypeId) (ho : o.op = .call { callee := .builtin .append, args := #[s, x], argTypes := #[t, t] })
    (ht : P.underlying t = some (.slice e)) (hinfo : (P.info? e).map (fun i => (i.zero, i.size, i.bytes)) = some (some (.agg z32.toArray), 32, 32))
    (base : Nat) (A : Option Addr) (n c : Nat) (L : List (List UInt8)) (hs : a.eval s = .slice A n c) (hown : OwnH w base e A n c L) (l : List UInt8) (hl : l.length = 32) (g : Nat) (hx : a.eval x = .slice (some ⟨g, 0, none⟩) 1 1) (V : List Value) (hV : V = l.map B8) (hb : Blk w g V e)
    (hn : n ≤ 1000000) (hbase : base ≤ w.heap.size) (h : ∀ A' c' w', OwnH w' base e A' (n + 1) c' (L ++ [l]) → Below base w w' → K (a.put o.dst (.slice A' (n + 1) c')) w') : o.wp P a w K Q := by
  obtain ⟨i, hi, hzz⟩ := Option.map_eq_some_iff.1 hinfo
  simp only [Prod.mk.injEq] at hzz
  obtain ⟨hz, hsz, hby⟩ := hzz
  obtain ⟨h1, h2, h3⟩ := hown
  have h32 : V.length = 32 := by rw [hV, List.length_map, hl]
  obtain ⟨v', w', hrun, h4, h5, _, _⟩ := run_append_own_at (P := P) w base t o.type e i (.agg z32.toArray) 32 32 ht hi hz hsz hby rfl (by omega) _ n _ h3 ⟨g, 0, none⟩ 1 1 V (by rw [h32]) (fun j u hu => by rw [Addr.add_mid, Nat.zero_add, hb.cell, hu]) (fun u hu => by rw [hV] at hu; exact b8_one l u hu) (by unfold maxLen; omega) (by omega) hbase
  obtain ⟨A', c', rfl⟩ : ∃ A' c', v' = .slice A' (n + 1) c' := by
    rcases h4.2 with ⟨_, h0⟩ | ⟨g', cap, cur, rfl, _⟩
    · omega
    · exact ⟨_, _, rfl⟩
  have hblk : ∀ k, Value.ownBlock (.slice A n c) = some k → base ≤ k := fun k hk => by
    rcases h3.2 with ⟨hv, _⟩ | ⟨g', cap, cur, hv, hb', _⟩
    · injection hv with e1; rw [e1] at hk; simp [Value.ownBlock] at hk
    · injection hv with e1
      rw [e1] at hk
      have : g' = k := by simpa [Value.ownBlock] using hk
      omega
  unfold Oper.wp execOp
  simp only [ho, resolve, invoke, builtin, Sem.run_bind, Sem.run_pure, Result.andThen_ok, List.map_toArray, List.map_cons, List.map_nil, hs, hx, hrun]
  refine h A' c' w' ⟨by simp [h1], fun y hy => ?_, ?_⟩ ((Below.refl _ _).grown h5 hbase hblk)
  · rcases List.mem_append.1 hy with hy | hy
    · exact h2 y hy
    · simp at hy; rw [hy]; exact hl
  · rw [List.flatten_append, List.map_append]
    simp only [List.flatten_cons, List.flatten_nil, List.append_nil]
    rw [← hV]
    exact h4
set_option maxRecDepth 100000 in
theorem wpList_appH {P : Program} {ops : Array Oper} {rest : List Oper} {o : Oper} {a : Act} {w : World} {Q : Exit → Act → World → Prop} (hgd : o.guard = none) (s x : Operand) (t e : TypeId) (ho : o.op = .call { callee := .builtin .append, args := #[s, x], argTypes := #[t, t] })
    (ht : P.underlying t = some (.slice e)) (hinfo : (P.info? e).map (fun i => (i.zero, i.size, i.bytes)) = some (some (.agg z32.toArray), 32, 32))
    (base : Nat) (A : Option Addr) (n c : Nat) (L : List (List UInt8)) (hs : a.eval s = .slice A n c) (hown : OwnH w base e A n c L) (l : List UInt8) (hl : l.length = 32) (g : Nat) (hx : a.eval x = .slice (some ⟨g, 0, none⟩) 1 1) (V : List Value) (hV : V = l.map B8) (hb : Blk w g V e)
    (hn : n ≤ 1000000) (hbase : base ≤ w.heap.size) (h : ∀ A' c' w', OwnH w' base e A' (n + 1) c' (L ++ [l]) → Below base w w' → wpList P ops Q rest (a.put o.dst (.slice A' (n + 1) c')) w') : wpList P ops Q (o :: rest) a w :=
  wpList_plain hgd fun _ hK => wp_appH s x t e ho ht hinfo base A n c L hs hown l hl g hx V hV hb hn hbase (fun A' c' w' h1 h2 => hK _ _ (h A' c' w' h1 h2))
set_option maxRecDepth 100000 in
/-- A slice of one hash. -/
theorem run_bs {P : Program} (t e : TypeId) (ht : P.underlying t = some (.slice e)) (hinfo : (P.info? e).map (fun i => (i.zero, i.size, i.bytes)) = some (some (.agg z32.toArray), 32, 32)) (V : List Value) (hV : V.length = 32) (W : World) :
    (Instr.buildSlice t 1 #[(0, .agg V.toArray)]).run P W = .ok (.slice (some ⟨W.heap.size, 0, none⟩) 1 1) (W.alloc (.cells V.toArray e)) := by
  obtain ⟨i, hi, hzz⟩ := Option.map_eq_some_iff.1 hinfo
  simp only [Prod.mk.injEq] at hzz
  obtain ⟨hz, hsz, _⟩ := hzz
  refine run_buildSlice W t e 1 _ V.toArray i (.agg z32.toArray) ht hi hz (by rw [hsz]; decide) (by rw [hsz]; decide) ?_
  rw [hsz]
  have hz0 : (Array.range (1 * 32)).map ((Value.agg z32.toArray).cells[· % (Value.agg z32.toArray).cells.size]!) = z32.toArray := by kernel_rfl
  rw [hz0]
  show Instr.fill (fun i => some (i * 32, 32)) z32.toArray [(0, .agg V.toArray)] = some V.toArray
  rw [fill_step _ z32 V 0 0 _ _ (by rw [hV]) rfl (by rw [hV]; decide), over_all z32 V (by rw [hV]; rfl)]
  rfl
set_option maxRecDepth 100000 in
theorem at_bs {P : Program} {ops : Array Oper} {rest : List Oper} {Q : Exit → Act → World → Prop} {a : Act} {w : World} {dst : Option Tmp} {t : TypeId} {p : String} {af : Array Edge} (ty : TypeId) (x : Operand)
    (h : wpList P ops Q ({ dst := dst, op := .buildSlice ty 1 #[(0, x)], type := t, pos := p, after := af, guard := none } :: rest) a w) : wpList P ops Q ({ dst := dst, op := .buildSlice ty 1 #[(0, x)], type := t, pos := p, after := af, guard := none } :: rest) a w := h
set_option maxRecDepth 100000 in
theorem wpList_bs {P : Program} {ops : Array Oper} {rest : List Oper} {op : Oper} {a : Act} {w : World} {Q : Exit → Act → World → Prop} (hgd : op.guard = none) (t e : TypeId) (x : Operand) (ho : op.op = .buildSlice t 1 #[(0, x)])
    (ht : P.underlying t = some (.slice e)) (hinfo : (P.info? e).map (fun i => (i.zero, i.size, i.bytes)) = some (some (.agg z32.toArray), 32, 32)) (V : List Value) (hV : V.length = 32) (hx : a.eval x = .agg V.toArray)
    (h : wpList P ops Q rest (a.put op.dst (.slice (some ⟨w.heap.size, 0, none⟩) 1 1)) (w.alloc (.cells V.toArray e))) : wpList P ops Q (op :: rest) a w :=
  wpList_plain hgd fun _ hK => by
    unfold Oper.wp execOp
    simp only [ho, List.map_toArray, List.map_cons, List.map_nil, hx, Sem.run_bind, run_bs t e ht hinfo V hV w, Result.andThen_ok]
    exact hK _ _ h
set_option maxRecDepth 100000 in
set_option maxHeartbeats 4000000 in
theorem refsO_calls (A : Option Addr) (n c : Nat) (L : List (List UInt8)) (w : World) (hr : RdH w A n L) (hn : n ≤ 1000) :
    Calls Tryd.prog 33 #[.slice A n c] w fun e w' => ∃ A' c', e = .returned (.slice A' n c') ∧ OwnH w' w.heap.size 46 A' n c' L ∧ Below w.heap.size w w' := by
  have HR := Lib.hid hr
  have hln := hr.len
  clear hr
  go_enter Tryd.func33, Tryd.ntmps33
  go_wp2
  go_loopw [3, 8] (fun v i wr => ∃ (t : Nat) (A' : Option Addr) (c' : Nat), t ≤ n ∧ i = .int .i64 (t : Int) ∧ v = .slice A' t c' ∧ OwnH wr w.heap.size 46 A' t c' (L.take t) ∧ Below w.heap.size w wr) (fun _ i _ => n - (intOf i).toNat)
  case atStart => exact ⟨0, none, 0, by omega, by first | rfl | go_num, rfl, by rw [List.take_zero]; exact OwnH.nil _ _ _, Below.refl _ w⟩
  case round =>
    obtain ⟨t, A', c', htn, rfl, rfl, hown, hbel⟩ := hrel
    by_cases hlt : t < n
    · have hlt' : (t : Int) < (n : Int) := by omega
      obtain ⟨b, off, rfl, hb, hrg⟩ := (HR.out.below hbel).at_ hlt
      obtain ⟨l, hl⟩ : ∃ l, l = hat L t := ⟨_, rfl⟩
      obtain ⟨V, hV⟩ : ∃ V, V = l.map B8 := ⟨_, rfl⟩
      rw [← hl, ← hV] at hrg
      have l32 : l.length = 32 := by rw [hl]; exact hat_32 HR.out.all (by omega)
      have v32 : V.length = 32 := by rw [hV, List.length_map, l32]
      have IV : Hid ((Tryd.prog.info? 47).map (·.size) = some V.length) := Lib.hid (by rw [v32]; kernel_rfl)
      have LV : Hid (z32.length = V.length) := Lib.hid (by rw [v32]; rfl)
      have OV : Hid (∀ v ∈ V, v.oneCell' = true) := Lib.hid (by rw [hV]; exact b8_one _)
      have hnext : L.take (t + 1) = L.take t ++ [l] := by
        rw [List.take_succ_eq_append_getElem (by omega), hl]
        congr 1
        unfold hat
        rw [List.getD_eq_getElem?_getD, List.getElem?_eq_getElem (by omega)]
        rfl
      obtain ⟨T, hT⟩ : ∃ T, T = L.take t := ⟨_, rfl⟩
      rw [← hT] at hown hnext
      have HN := Lib.hid hnext
      have HV := Lib.hid hV
      have HO := Lib.hid hown
      have H32 := Lib.hid (And.intro l32 v32)
      have AP : Hid (∀ (x1 x2 : World), Below wr.heap.size wr x1 → x2 = x1.alloc (.cells V.toArray 46) → OwnH x2 w.heap.size 46 A' t c' T ∧ Blk x2 x1.heap.size V 46 ∧ w.heap.size ≤ x2.heap.size ∧ Below w.heap.size w x2) := Lib.hid fun x1 x2 h1 h2 => by
        have h3 := below_al h1 (.cells V.toArray 46)
        rw [← h2] at h3
        refine ⟨⟨hown.1, hown.2.1, ?_⟩, ?_, ?_, below_more hbel h3⟩
        · refine ⟨hown.2.2.1, ?_⟩
          rcases hown.2.2.2 with h | ⟨g, cap, cur, e1, e2, e3, e4⟩
          · exact .inl h
          · exact .inr ⟨g, cap, cur, e1, e2, (h3.block g (Array.getElem?_eq_some_iff.1 e3).1).trans e3, e4⟩
        · rw [h2]; exact Blk.new x1 _ _
        · exact Nat.le_trans hbel.size h3.size
      clear hl hV hown hT hnext l32 v32 hbel
      go_wp2_with (first
        | ((with_reducible refine at_load 47 (.tmp 10) ?_); refine wpList_load_mid rfl 47 (.tmp 10) rfl b (off + t * 32) (by first | rfl | simp [Act.eval]) V _ hrg Tryd.underlying47 rfl IV.out ?_)
        | ((with_reducible refine at_store 47 (.tmp 5) (.tmp 11) ?_); refine wpList_store_blk rfl 47 (.tmp 5) (.tmp 11) rfl wr.heap.size z32 V 47 rfl rfl (Blk.new wr _ _) LV.out IV.out OV.out ?_; intro x1 hb1 ho1)
        | ((with_reducible refine at_load 47 (.tmp 5) ?_); refine wpList_load_mid rfl 47 (.tmp 5) rfl wr.heap.size 0 rfl V _ hb1.range Tryd.underlying47 rfl IV.out ?_)
        | ((with_reducible refine at_bs 38 (.tmp 13) ?_); refine wpList_bs rfl 38 46 (.tmp 13) rfl Tryd.underlying38 infoR V H32.out.2 rfl ?_)
        | (at_builtin; have hap := AP.out x1 _ (below_only (below_al (Below.refl _ wr) _) ho1 (Nat.le_refl _)) rfl; refine wpList_appH rfl _ _ 38 46 rfl Tryd.underlying38 infoR w.heap.size A' t c' T rfl hap.1 l H32.out.1 x1.heap.size rfl V HV.out hap.2.1 (by omega) hap.2.2.1 ?_; intro A2 c2 w2 ho2 hb2; have hb3 := hap.2.2.2.trans hb2))
      go_roundw
      case rel => exact ⟨t + 1, A2, c2, by omega, by go_num, rfl, by rw [HN.out]; exact ho2, hb3⟩
      case measure => simp [intOf]; omega
    · have e : t = n := by omega
      subst e
      rw [List.take_of_length_le (by omega)] at hown
      have HO := Lib.hid hown
      clear hown
      go_wp2
      go_ret
      exact ⟨A', c', rfl, HO.out, hbel⟩
set_option maxRecDepth 100000 in
theorem refs_calls (A : Option Addr) (n c : Nat) (L : List (List UInt8)) (w : World) (hr : RdH w A n L) (hn : n ≤ 1000) :
    Calls Tryd.prog 33 #[.slice A n c] w fun e w' => ∃ A' c', e = .returned (.slice A' n c') ∧ RdH w' A' n L ∧ Below w.heap.size w w' :=
  (refsO_calls A n c L w hr hn).mono fun e w' ⟨A', c', h1, h2, h3⟩ => ⟨A', c', h1, h2.rd, h3⟩
end Go.Proofs.YtpoinhjkdgcnaaaDoor

/- The contracts of the document's own Root and Doubled of layer 8. -/
namespace Go.Proofs.YtpoinhjkdgcnaaaDoor
open Go.RowKit
set_option linter.unusedVariables false
set_option linter.unusedSimpArgs false

set_option maxRecDepth 100000 in
theorem depth_le6 (n : Nat) (h : n ≤ 64) : depth n ≤ 6 := by
  by_cases hn : n ≤ 1
  · rw [depth_small n hn]; omega
  · have h1 := depth_low n (by omega)
    rcases Nat.lt_or_ge (depth n) 7 with h2 | h2
    · omega
    · have h3 := Nat.pow_le_pow_right (n := 2) (by omega) (show 6 ≤ depth n - 1 by omega)
      omega
set_option maxRecDepth 100000 in
theorem pairs_false (l : List (List UInt8)) (h : ∀ i, 2 * i + 1 < l.length → hat l (2 * i) ≠ hat l (2 * i + 1)) : pairs l = false := by
  unfold pairs
  rw [List.any_eq_false]
  intro i hi
  have := h i (by rw [List.mem_range] at hi; omega)
  simpa using this
set_option maxRecDepth 100000 in
theorem pairs_true (l : List (List UInt8)) (i : Nat) (h1 : 2 * i + 1 < l.length) (h2 : hat l (2 * i) = hat l (2 * i + 1)) : pairs l = true := by
  unfold pairs
  rw [List.any_eq_true]
  exact ⟨i, by rw [List.mem_range]; omega, by simpa using h2⟩
set_option maxRecDepth 100000 in
theorem dbl_true (l : List (List UInt8)) (k : Nat) (hk : k < depth l.length) (h : pairs (lev k l) = true) : dbl l = true := by
  unfold dbl
  rw [List.any_eq_true]
  exact ⟨k, by rw [List.mem_range]; exact hk, h⟩
set_option maxRecDepth 100000 in
theorem dbl_false (l : List (List UInt8)) (h : ∀ k, k < depth l.length → pairs (lev k l) = false) : dbl l = false := by
  unfold dbl
  rw [List.any_eq_false]
  intro k hk
  rw [h k (by rw [List.mem_range] at hk; exact hk)]
  simp
set_option maxRecDepth 100000 in
/-- Two hashes are equal if their bytes are. -/
theorem eq32 {P : Program} (t e : TypeId) (ht : P.underlying t = some (.array 32 e)) (he : P.underlying e = some (.int .u8)) (hce : P.cellsOf e = 1) (hct : P.cellsOf t = 32) (hk : P.keyTypeAt 2 t = true) (a b : List UInt8) (ha : a.length = 32) (hb : b.length = 32) (B : Bool) (hB : decide (a = b) = B) (w : World) :
    (Op.equalIn 10000 t (.agg (a.map B8).toArray) (.agg (b.map B8).toArray)).run P w = .ok B w := by
  have hf : ∀ l : List UInt8, l.length = 32 → (Value.agg (l.map B8).toArray).formed P t = true := fun l hl => by simp [Value.formed, ht, hct, hl]
  obtain ⟨r, hr, hiff⟩ := run_equalIn_deep (P := P) 9998 2 t hk w 2 2 _ _ _ _ (hf a ha) (hf b hb) (lits_bytes t e ht he hce hct a ha) (lits_bytes t e ht he hce hct b hb)
  rw [hr]
  have : r = B := by
    rw [← hB]
    cases hr' : r
    · have hne : ¬ a = b := fun e => by rw [hiff.2 (by rw [e])] at hr'; cases hr'
      rw [decide_eq_false hne]
    · rw [decide_eq_true (blits_inj (hiff.1 hr'))]
  rw [this]
set_option maxRecDepth 100000 in
theorem eqR32 (a b : List UInt8) (ha : a.length = 32) (hb : b.length = 32) (B : Bool) (hB : decide (a = b) = B) (w : World) : (Op.equalIn 10000 46 (.agg (a.map B8).toArray) (.agg (b.map B8).toArray)).run Tryd.prog w = .ok B w :=
  eq32 46 5 Tryd.underlying46 Tryd.underlying5 (by kernel_rfl) (by kernel_rfl) (by kernel_rfl) a b ha hb B hB w
set_option maxRecDepth 100000 in
theorem eqG32 (a b : List UInt8) (ha : a.length = 32) (hb : b.length = 32) (B : Bool) (hB : decide (a = b) = B) (w : World) : (Op.equalIn 10000 47 (.agg (a.map B8).toArray) (.agg (b.map B8).toArray)).run Tryd.prog w = .ok B w :=
  eq32 47 5 Tryd.underlying47 Tryd.underlying5 (by kernel_rfl) (by kernel_rfl) (by kernel_rfl) a b ha hb B hB w
end Go.Proofs.YtpoinhjkdgcnaaaDoor

/- Plain mathematics of layer 8: a list with its last hash once more; two lists with one root. -/
namespace Go.Proofs.YtpoinhjkdgcnaaaDoor
set_option linter.unusedVariables false

set_option maxRecDepth 100000 in
/-- An odd list with its last hash once more has the same level above it. -/
theorem abv_twice : ∀ (l : List (List UInt8)), l.length % 2 = 1 → abv (l ++ [hat l (l.length - 1)]) = abv l
  | [], h => by simp at h
  | [a], _ => by simp [abv, hat]
  | [a, b], h => by simp at h
  | a :: b :: c :: r, h => by
    have h1 := abv_twice (c :: r) (by simp at h ⊢; omega)
    have e : hat (a :: b :: c :: r) ((a :: b :: c :: r).length - 1) = hat (c :: r) ((c :: r).length - 1) := by
      simp [hat]
    rw [e]
    show pr a b :: abv (c :: r ++ [hat (c :: r) ((c :: r).length - 1)]) = _
    rw [h1]
    rfl
set_option maxRecDepth 100000 in
theorem root_twice (l : List (List UInt8)) (h : l.length % 2 = 1) (h2 : 1 < l.length) : rootH (l ++ [hat l (l.length - 1)]) = rootH l := by
  rw [← rootH_abv _ (by rw [List.length_append]; simp; omega), abv_twice l h, rootH_abv l h2]
set_option maxRecDepth 100000 in
theorem hat_app_left (l r : List (List UInt8)) (i : Nat) (h : i < l.length) : hat (l ++ r) i = hat l i := by
  unfold hat
  rw [List.getD_eq_getElem?_getD, List.getD_eq_getElem?_getD, List.getElem?_append_left h]
set_option maxRecDepth 100000 in
theorem hat_app_last (l : List (List UInt8)) (x : List UInt8) : hat (l ++ [x]) l.length = x := by
  unfold hat
  rw [List.getD_eq_getElem?_getD, List.getElem?_append_right (Nat.le_refl _)]
  simp
set_option maxRecDepth 100000 in
theorem pairs_at (l : List (List UInt8)) (i : Nat) (h1 : 2 * i + 1 < l.length) (h2 : hat l (2 * i) = hat l (2 * i + 1)) : pairs l = true := by
  unfold pairs
  rw [List.any_eq_true]
  exact ⟨i, by rw [List.mem_range]; omega, by simpa using h2⟩
set_option maxRecDepth 100000 in
theorem dbl_twice (l : List (List UInt8)) (h : l.length % 2 = 1) (h2 : 1 < l.length) : dbl (l ++ [hat l (l.length - 1)]) = true := by
  rw [dbl_abv _ (by rw [List.length_append]; simp; omega)]
  have : pairs (l ++ [hat l (l.length - 1)]) = true := by
    refine pairs_at _ (l.length / 2) (by rw [List.length_append]; simp; omega) ?_
    rw [show 2 * (l.length / 2) + 1 = l.length from by omega, hat_app_last, hat_app_left _ _ _ (by omega)]
    congr 1
    omega
  rw [this]
  rfl
set_option maxRecDepth 100000 in
theorem beside_min (n i : Nat) (h : i < (n + 1) / 2) : beside n i = min (2 * i + 1) (n - 1) := by
  unfold beside
  split <;> omega
set_option maxRecDepth 100000 in
theorem hat_ext {a b : List (List UInt8)} (hl : a.length = b.length) (h : ∀ i, i < a.length → hat a i = hat b i) : a = b := by
  refine List.ext_getElem hl fun i h1 h2 => ?_
  have := h i h1
  unfold hat at this
  rw [List.getD_eq_getElem?_getD, List.getD_eq_getElem?_getD, List.getElem?_eq_getElem h1, List.getElem?_eq_getElem h2] at this
  simpa using this
set_option maxRecDepth 100000 in
/-- Where the levels above are one and no pair clashes, the lists are one. -/
theorem abv_apart {a b : List (List UInt8)} (hl : a.length = b.length) (hab : abv a = abv b) (hno : ∀ i, i < (a.length + 1) / 2 → hat (abv a) i = hat (abv b) i → hat a (2 * i) = hat b (2 * i) ∧ hat a (beside a.length i) = hat b (beside a.length i)) : a = b := by
  refine hat_ext hl fun i hi => ?_
  have h1 := hno (i / 2) (by omega) (by rw [hab])
  rcases Nat.mod_two_eq_zero_or_one i with h | h
  · have e : 2 * (i / 2) = i := by omega
    rw [e] at h1
    exact h1.1
  · have e : beside a.length (i / 2) = i := by
      unfold beside
      rw [if_pos (by omega)]
      omega
    rw [e] at h1
    exact h1.2
set_option maxRecDepth 100000 in
/-- A list of one hash is its root. -/
theorem root_single {a : List (List UInt8)} (h : a.length = 1) : a = [rootH a] := by
  match a, h with
  | [x], _ => rw [rootH_one]
end Go.Proofs.YtpoinhjkdgcnaaaDoor
