/- Merged texts: HdrP. -/
import Derived.Test.YthpigninbeommaaDoorMau
import Derived.Test.YthpigninbeommaaDoorMat
/- The contract of package header's own Parse. -/
namespace Go.Proofs.YthpigninbeommaaDoor
open Go.RowKit
set_option linter.unusedVariables false
set_option linter.unusedSimpArgs false

def Hd.zero : Hd := ⟨0, List.replicate 32 0, List.replicate 32 0, 0, 0, 0⟩
set_option maxRecDepth 100000 in
theorem Hd.zero_ok : Hd.zero.ok := ⟨by decide, rfl, rfl, by decide, by decide, by decide⟩
set_option maxRecDepth 100000 in
theorem Hd.ok.cv {h : Hd} (o : h.ok) : h.cells[0]? = some (.int .u32 (h.v : Int)) := h.c0
set_option maxRecDepth 100000 in
theorem Hd.ok.ct {h : Hd} (o : h.ok) : h.cells[65]? = some (.int .u32 (h.t : Int)) := (Hd.ct o).1
set_option maxRecDepth 100000 in
theorem Hd.ok.cb {h : Hd} (o : h.ok) : h.cells[66]? = some (.int .u32 (h.b : Int)) := (Hd.ct o).2.1
set_option maxRecDepth 100000 in
theorem Hd.ok.cn {h : Hd} (o : h.ok) : h.cells[67]? = some (.int .u32 (h.n : Int)) := (Hd.ct o).2.2
set_option maxRecDepth 100000 in
theorem Hd.ok.set_v {h : Hd} (o : h.ok) (x : Nat) : h.cells.set 0 (.int .u32 (x : Int)) = { h with v := x : Hd }.cells := rfl
set_option maxRecDepth 100000 in
theorem Hd.tail {h : Hd} (o : h.ok) (j : Nat) (v : Value) : h.cells.set (65 + j) v = .int .u32 (h.v : Int) :: (h.p.map B8 ++ (h.r.map B8 ++ [Value.int .u32 (h.t : Int), .int .u32 (h.b : Int), .int .u32 (h.n : Int)].set j v)) := by
  have hp := o.p
  have hr := o.r
  unfold Hd.cells
  rw [show 65 + j = (64 + j) + 1 from by omega, List.set_cons_succ, List.set_append_right _ _ (by rw [List.length_map]; omega), List.length_map, hp, List.set_append_right _ _ (by rw [List.length_map]; omega), List.length_map, hr, show 64 + j - 32 - 32 = j from by omega]
set_option maxRecDepth 100000 in
theorem Hd.ok.set_t {h : Hd} (o : h.ok) (x : Nat) : h.cells.set 65 (.int .u32 (x : Int)) = { h with t := x : Hd }.cells := Hd.tail o 0 _
set_option maxRecDepth 100000 in
theorem Hd.ok.set_b {h : Hd} (o : h.ok) (x : Nat) : h.cells.set 66 (.int .u32 (x : Int)) = { h with b := x : Hd }.cells := Hd.tail o 1 _
set_option maxRecDepth 100000 in
theorem Hd.ok.set_n {h : Hd} (o : h.ok) (x : Nat) : h.cells.set 67 (.int .u32 (x : Int)) = { h with n := x : Hd }.cells := Hd.tail o 2 _
set_option maxRecDepth 100000 in
theorem Hd.ok.over_p {h : Hd} (o : h.ok) (x : List UInt8) (hx : x.length = 32) : over h.cells 1 (x.map B8) = { h with p := x : Hd }.cells := by
  have hp := o.p
  unfold over Hd.cells
  rw [List.length_map, hx, List.take_succ_cons, List.take_zero, show 1 + 32 = 32 + 1 from rfl, List.drop_succ_cons, List.drop_left' (by rw [List.length_map]; exact hp)]
  simp
set_option maxRecDepth 100000 in
theorem Hd.ok.over_r {h : Hd} (o : h.ok) (x : List UInt8) (hx : x.length = 32) : over h.cells 33 (x.map B8) = { h with r := x : Hd }.cells := by
  have hp := o.p
  have hr := o.r
  unfold over Hd.cells
  rw [List.length_map, hx, List.take_succ_cons, List.take_left' (by rw [List.length_map]; exact hp), show 33 + 32 = 64 + 1 from rfl, List.drop_succ_cons, ← List.append_assoc, List.drop_left' (by simp [hp, hr])]
  simp
set_option maxRecDepth 100000 in
theorem tk4_lt (l : List UInt8) (e : Nat) : numL (tkV l e 4) < 4294967296 := by
  have h1 := numL_lt (tkV l e 4)
  have h2 := Nat.pow_le_pow_right (n := 256) (by omega) (tkV_len l e 4)
  have h3 : (256 : Nat) ^ 4 = 4294967296 := by decide
  omega
set_option maxRecDepth 100000 in
theorem zeroH (W : World) : (zeroValue 26).run Tryd.prog W = .ok (.agg Hd.zero.cells.toArray) W := by
  have h : (Tryd.prog.info? 26).map (·.zero) = some (some (.agg Hd.zero.cells.toArray)) := by kernel_rfl
  obtain ⟨i, hi, hz⟩ := Option.map_eq_some_iff.1 h
  simp [zeroValue, typeInfo, hi, hz]
set_option maxRecDepth 100000 in
/-- A store of an array into a place of a block. -/
theorem wpList_store_over {P : Program} {ops : Array Oper} {rest : List Oper} {op : Oper} {a : Act} {w : World} {Q : Exit → Act → World → Prop} (hgd : op.guard = none) (ty : TypeId) (x y : Operand) (ho : op.op = .store ty x y)
    (g o : Nat) (cs0 cells : List Value) (t : TypeId) (hx : a.eval x = .pointer (some ⟨g, o, none⟩)) (hy : a.eval y = .agg cells.toArray) (hb : Blk w g cs0 t) (hl : o + cells.length ≤ cs0.length)
    (hi : (P.info? ty).map (·.size) = some cells.length) (h1 : ∀ v ∈ cells, v.oneCell' = true)
    (h : ∀ w2, Blk w2 g (over cs0 o cells) t → Only g w w2 → wpList P ops Q rest (a.put op.dst undef) w2) : wpList P ops Q (op :: rest) a w := by
  refine wpList_store_mid hgd ty x y ho g o cells.toArray hx hy (hb.there o _ (by rw [List.size_toArray]; omega)) (by rw [List.size_toArray]; exact hi) (all_oneCell_toArray h1) ?_
  exact h _ (Blk.setCells cells w cs0 o hb hl) (Only.setCells _ _ _ _ (Only.refl g w))
/-- While a header is parsed: the reader at q, the header at g, the result's cells at gr. -/
structure PS (w0 : World) (q g gr : Nat) (W : World) (h : Hd) (l : List UInt8) (e : Nat) : Prop where
  rr : Rr W q l e (fun i => i = q ∨ g ≤ i)
  blk : Blk W g h.cells 26
  res : Blk W gr Hd.zero.cells 26
  bel : Below w0.heap.size w0 W
  lt1 : gr < q
  lt2 : q < g
  lt3 : w0.heap.size ≤ gr
set_option maxRecDepth 100000 in
theorem PS.over {w0 W W' : World} {q g gr e : Nat} {h : Hd} {l : List UInt8} (p : PS w0 q g gr W h l e) (h' : Hd) (hb : Blk W' g h'.cells 26) (ho : Only g W W') : PS w0 q g gr W' h' l e := by
  have h1 := p.lt1
  have h2 := p.lt2
  have h3 := p.lt3
  exact ⟨p.rr.narrow (fun i hi => hi) (ho.block q (by omega)) (Frm.only ho (.inr (Nat.le_refl _))), hb, ho.blk p.res (by omega), below_only p.bel ho (by omega), h1, h2, h3⟩
set_option maxRecDepth 100000 in
theorem PS.set {w0 W : World} {q g gr e : Nat} {h : Hd} {l : List UInt8} (p : PS w0 q g gr W h l e) (o : Nat) (v : Value) (h' : Hd) (eq : h.cells.set o v = h'.cells) : PS w0 q g gr (W.setCell ⟨g, o, none⟩ v) h' l e :=
  p.over h' (by rw [← eq]; exact p.blk.set o v) ((Only.refl g W).set o v)
set_option maxRecDepth 100000 in
theorem PS.frm {w0 W W' : World} {q g gr e e' : Nat} {h : Hd} {l l' : List UInt8} (p : PS w0 q g gr W h l e) (hr : Rr W' q l' e' (fun i => i = q ∨ g ≤ i)) (hf : Frm (fun i => i = q) W W') : PS w0 q g gr W' h l' e' := by
  have h1 := p.lt1
  have h2 := p.lt2
  have h3 := p.lt3
  exact ⟨hr, hf.blk p.blk (by omega), hf.blk p.res (by omega), below_frm p.bel hf (fun i hi => by omega), h1, h2, h3⟩
set_option maxRecDepth 100000 in
theorem PS.num {w0 W : World} {q g gr e : Nat} {h : Hd} {l : List UInt8} (p : PS w0 q g gr W h l e) (l' : List UInt8) (e' x : Nat) (hl : l' = tkL l e 4) (he : e' = tkE l e 4) (hx : x = numL (tkV l e 4)) :
    Calls Tryd.prog 23 #[.pointer (some ⟨q, 0, none⟩), .int .i64 4] W fun en w' => en = .returned (.int .u64 (x : Int)) ∧ PS w0 q g gr w' h l' e' := by
  subst hl he hx
  exact (rnum_calls W q l e p.rr 4 4 (by decide) (.inl rfl)).mono fun _ _ hh => ⟨hh.1, p.frm hh.2.1 hh.2.2⟩
set_option maxRecDepth 100000 in
theorem PS.hash {w0 W : World} {q g gr e : Nat} {h : Hd} {l : List UInt8} (p : PS w0 q g gr W h l e) (l' : List UInt8) (e' : Nat) (X : List Value) (hl : l' = tkL l e 32) (he : e' = tkE l e 32) (hX : X = (hsh l e).map B8) :
    Calls Tryd.prog 24 #[.pointer (some ⟨q, 0, none⟩)] W fun en w' => en = .returned (.agg X.toArray) ∧ PS w0 q g gr w' h l' e' := by
  subst hl he hX
  exact (rhash_calls W q l e p.rr (.inl rfl)).mono fun _ _ hh => ⟨hh.1, p.frm hh.2.1 hh.2.2⟩
set_option maxRecDepth 100000 in
theorem PS.end_ {w0 W : World} {q g gr e : Nat} {h : Hd} {l : List UInt8} (p : PS w0 q g gr W h l e) (e' : Nat) (he : e' = ndE l e) :
    Calls Tryd.prog 25 #[.pointer (some ⟨q, 0, none⟩)] W fun en w' => en = .returned (.int .i64 (e' : Int)) ∧ PS w0 q g gr w' h l e' := by
  subst he
  exact (end_calls W q l e p.rr (.inl rfl)).mono fun _ _ hh => ⟨hh.1, p.frm hh.2.1 hh.2.2⟩
/-- What Parse reads, part by part; and its error. -/
def prsL : List UInt8 → Nat → List Nat → List UInt8 × Nat
  | l, e, [] => (l, e)
  | l, e, n :: r => prsL (tkL l e n) (tkE l e n) r
def prsAt (l : List UInt8) (k : Nat) : List UInt8 × Nat := prsL l 0 ([4, 32, 32, 4, 4, 4].take k)
def prsE (l : List UInt8) : Nat := ndE (prsAt l 6).1 (prsAt l 6).2
def prsN (l : List UInt8) (k : Nat) : Nat := numL (tkV (prsAt l k).1 (prsAt l k).2 4)
def prsX (l : List UInt8) (k : Nat) : List UInt8 := hsh (prsAt l k).1 (prsAt l k).2
def prsH (l : List UInt8) : Hd := if prsE l = 0 then ⟨prsN l 0, prsX l 1, prsX l 2, prsN l 3, prsN l 4, prsN l 5⟩ else Hd.zero
set_option maxRecDepth 100000 in
theorem results_err {P : Program} {fn : Func} {p u : Tmp} {ty : TypeId} (h : fn.results = #[.cell p ty, .tmp u]) (tmps : Array Value) (w : World) (g : Nat) (t : TypeId) (cs : List Value) (d : TypeDesc) (x : Value)
    (hp : tmps.getD p undef = .pointer (some ⟨g, 0, none⟩)) (hx : tmps.getD u undef = x) (hg : Blk w g cs t)
    (hu : P.underlying ty = some d) (hd : (match d with | .struct _ | .array _ _ => true | _ => false) = true) (hi : (P.info? ty).map (·.size) = some cs.length) :
    (results fn tmps).run P w = .ok (.tuple #[.agg cs.toArray, x]) w := results_in h tmps w g t cs.toArray (0, 0) d x hp hx hg hu hd (by rw [List.size_toArray]; exact hi)
set_option maxRecDepth 100000 in
set_option maxHeartbeats 4000000 in
theorem gparse_calls (A : Option Addr) (n c : Nat) (l : List UInt8) (w : World) (hn : n ≤ 140737488355328) (hrd : Rd w A n l) :
    Calls Tryd.prog 8 #[.slice A n c] w (Ret w (.tuple #[.agg (prsH l).cells.toArray, .int .i64 (prsE l : Int)])) := by
  obtain ⟨l0, hl0⟩ : ∃ l', l' = l := ⟨_, rfl⟩
  obtain ⟨e0, he0⟩ : ∃ e' : Nat, e' = 0 := ⟨_, rfl⟩
  obtain ⟨h0, hh0⟩ : ∃ h' : Hd, h' = Hd.zero := ⟨_, rfl⟩
  have OK0 : Hid h0.ok := Lib.hid (by rw [hh0]; exact Hd.zero_ok)
  obtain ⟨l1, hl1⟩ : ∃ l', l' = tkL l0 e0 4 := ⟨_, rfl⟩
  obtain ⟨e1, he1⟩ : ∃ e', e' = tkE l0 e0 4 := ⟨_, rfl⟩
  obtain ⟨x1, hx1⟩ : ∃ x', x' = numL (tkV l0 e0 4) := ⟨_, rfl⟩
  have wx1 : IntKind.u32.wrap (x1 : Int) = (x1 : Int) := by have := tk4_lt l0 e0; rw [IntKind.wrap_u32]; omega
  obtain ⟨h1, hh1⟩ : ∃ h' : Hd, h' = { h0 with v := x1 } := ⟨_, rfl⟩
  have OK1 : Hid h1.ok := Lib.hid (by rw [hh1]; exact { OK0.out with v := by have := tk4_lt l0 e0; rw [hx1]; exact this })
  have EQ1 : Hid (h0.cells.set 0 (.int .u32 (x1 : Int)) = h1.cells) := Lib.hid (by rw [hh1]; exact OK0.out.set_v x1)
  obtain ⟨l2, hl2⟩ : ∃ l', l' = tkL l1 e1 32 := ⟨_, rfl⟩
  obtain ⟨e2, he2⟩ : ∃ e', e' = tkE l1 e1 32 := ⟨_, rfl⟩
  obtain ⟨X2, hX2⟩ : ∃ X', X' = (hsh l1 e1).map B8 := ⟨_, rfl⟩
  have LX2 : Hid (X2.length = 32) := Lib.hid (by rw [hX2, List.length_map, hsh_len])
  have IX2 : Hid ((Tryd.prog.info? 24).map (·.size) = some X2.length) := Lib.hid (by rw [LX2.out]; kernel_rfl)
  have OX2 : Hid (∀ v ∈ X2, v.oneCell' = true) := Lib.hid (by rw [hX2]; exact b8s_one _)
  obtain ⟨h2, hh2⟩ : ∃ h' : Hd, h' = { h1 with p := hsh l1 e1 } := ⟨_, rfl⟩
  have OK2 : Hid h2.ok := Lib.hid (by rw [hh2]; exact { OK1.out with p := hsh_len _ _ })
  have EQ2 : Hid (over h1.cells 1 X2 = h2.cells) := Lib.hid (by rw [hh2, hX2]; exact OK1.out.over_p _ (hsh_len _ _))
  obtain ⟨l3, hl3⟩ : ∃ l', l' = tkL l2 e2 32 := ⟨_, rfl⟩
  obtain ⟨e3, he3⟩ : ∃ e', e' = tkE l2 e2 32 := ⟨_, rfl⟩
  obtain ⟨X3, hX3⟩ : ∃ X', X' = (hsh l2 e2).map B8 := ⟨_, rfl⟩
  have LX3 : Hid (X3.length = 32) := Lib.hid (by rw [hX3, List.length_map, hsh_len])
  have IX3 : Hid ((Tryd.prog.info? 24).map (·.size) = some X3.length) := Lib.hid (by rw [LX3.out]; kernel_rfl)
  have OX3 : Hid (∀ v ∈ X3, v.oneCell' = true) := Lib.hid (by rw [hX3]; exact b8s_one _)
  obtain ⟨h3, hh3⟩ : ∃ h' : Hd, h' = { h2 with r := hsh l2 e2 } := ⟨_, rfl⟩
  have OK3 : Hid h3.ok := Lib.hid (by rw [hh3]; exact { OK2.out with r := hsh_len _ _ })
  have EQ3 : Hid (over h2.cells 33 X3 = h3.cells) := Lib.hid (by rw [hh3, hX3]; exact OK2.out.over_r _ (hsh_len _ _))
  obtain ⟨l4, hl4⟩ : ∃ l', l' = tkL l3 e3 4 := ⟨_, rfl⟩
  obtain ⟨e4, he4⟩ : ∃ e', e' = tkE l3 e3 4 := ⟨_, rfl⟩
  obtain ⟨x4, hx4⟩ : ∃ x', x' = numL (tkV l3 e3 4) := ⟨_, rfl⟩
  have wx4 : IntKind.u32.wrap (x4 : Int) = (x4 : Int) := by have := tk4_lt l3 e3; rw [IntKind.wrap_u32]; omega
  obtain ⟨h4, hh4⟩ : ∃ h' : Hd, h' = { h3 with t := x4 } := ⟨_, rfl⟩
  have OK4 : Hid h4.ok := Lib.hid (by rw [hh4]; exact { OK3.out with t := by have := tk4_lt l3 e3; rw [hx4]; exact this })
  have EQ4 : Hid (h3.cells.set 65 (.int .u32 (x4 : Int)) = h4.cells) := Lib.hid (by rw [hh4]; exact OK3.out.set_t x4)
  obtain ⟨l5, hl5⟩ : ∃ l', l' = tkL l4 e4 4 := ⟨_, rfl⟩
  obtain ⟨e5, he5⟩ : ∃ e', e' = tkE l4 e4 4 := ⟨_, rfl⟩
  obtain ⟨x5, hx5⟩ : ∃ x', x' = numL (tkV l4 e4 4) := ⟨_, rfl⟩
  have wx5 : IntKind.u32.wrap (x5 : Int) = (x5 : Int) := by have := tk4_lt l4 e4; rw [IntKind.wrap_u32]; omega
  obtain ⟨h5, hh5⟩ : ∃ h' : Hd, h' = { h4 with b := x5 } := ⟨_, rfl⟩
  have OK5 : Hid h5.ok := Lib.hid (by rw [hh5]; exact { OK4.out with b := by have := tk4_lt l4 e4; rw [hx5]; exact this })
  have EQ5 : Hid (h4.cells.set 66 (.int .u32 (x5 : Int)) = h5.cells) := Lib.hid (by rw [hh5]; exact OK4.out.set_b x5)
  obtain ⟨l6, hl6⟩ : ∃ l', l' = tkL l5 e5 4 := ⟨_, rfl⟩
  obtain ⟨e6, he6⟩ : ∃ e', e' = tkE l5 e5 4 := ⟨_, rfl⟩
  obtain ⟨x6, hx6⟩ : ∃ x', x' = numL (tkV l5 e5 4) := ⟨_, rfl⟩
  have wx6 : IntKind.u32.wrap (x6 : Int) = (x6 : Int) := by have := tk4_lt l5 e5; rw [IntKind.wrap_u32]; omega
  obtain ⟨h6, hh6⟩ : ∃ h' : Hd, h' = { h5 with n := x6 } := ⟨_, rfl⟩
  have OK6 : Hid h6.ok := Lib.hid (by rw [hh6]; exact { OK5.out with n := by have := tk4_lt l5 e5; rw [hx6]; exact this })
  have EQ6 : Hid (h5.cells.set 67 (.int .u32 (x6 : Int)) = h6.cells) := Lib.hid (by rw [hh6]; exact OK5.out.set_n x6)
  have LL2 : Hid (1 + X2.length ≤ h1.cells.length) := Lib.hid (by rw [LX2.out, Hd.cells_len OK1.out]; omega)
  have LL3 : Hid (33 + X3.length ≤ h2.cells.length) := Lib.hid (by rw [LX3.out, Hd.cells_len OK2.out]; omega)
  obtain ⟨e7, he7⟩ : ∃ e' : Nat, e' = ndE l6 e6 := ⟨_, rfl⟩
  have hE : prsE l = e7 := by subst hl0 he0; rw [he7, hl6, he6, hl5, he5, hl4, he4, hl3, he3, hl2, he2, hl1, he1]; rfl
  have hH : prsH l = if e7 = 0 then h6 else Hd.zero := by
    unfold prsH
    rw [hE, hh6, hh5, hh4, hh3, hh2, hh1, hh0]
    subst hl0 he0
    rw [hx1, hx4, hx5, hx6, hl5, he5, hl4, he4, hl3, he3, hl2, he2, hl1, he1]
    rfl
  rw [hH, hE]
  have hb0 : Blk (w.alloc (.cells Hd.zero.cells.toArray 26)) w.heap.size Hd.zero.cells 26 := Blk.new w _ _
  have HB := Lib.hid (below_al (Below.refl _ w) (.cells Hd.zero.cells.toArray 26))
  have hs0 : (w.alloc (.cells Hd.zero.cells.toArray 26)).heap.size = w.heap.size + 1 := by simp
  obtain ⟨w0, hw0⟩ : ∃ w0, w0 = w.alloc (.cells Hd.zero.cells.toArray 26) := ⟨_, rfl⟩
  rw [← hw0] at hb0 HB hs0
  have hzv := zeroH
  have HC := Lib.hid (rof_calls A n c l w0 hn (hrd.below HB.out))
  have S6 : Hid ((Tryd.prog.info? 26).map (·.size) = some h6.cells.length) := Lib.hid (Hd.sizeG OK6.out)
  have S0 : Hid ((Tryd.prog.info? 26).map (·.size) = some Hd.zero.cells.length) := Lib.hid (Hd.sizeG Hd.zero_ok)
  have LZ : Hid (Hd.zero.cells.length = h6.cells.length) := Lib.hid (by rw [Hd.cells_len OK6.out, Hd.cells_len Hd.zero_ok])
  have HEQ0 := Lib.hid (And.intro hl0 (And.intro he0 hh0))
  have Hl1 := Lib.hid hl1
  have Hl2 := Lib.hid hl2
  have Hl3 := Lib.hid hl3
  have Hl4 := Lib.hid hl4
  have Hl5 := Lib.hid hl5
  have Hl6 := Lib.hid hl6
  have He1 := Lib.hid he1
  have He2 := Lib.hid he2
  have He3 := Lib.hid he3
  have He4 := Lib.hid he4
  have He5 := Lib.hid he5
  have He6 := Lib.hid he6
  have He7 := Lib.hid he7
  have Hx1 := Lib.hid hx1
  have HX2 := Lib.hid hX2
  have HX3 := Lib.hid hX3
  have Hx4 := Lib.hid hx4
  have Hx5 := Lib.hid hx5
  have Hx6 := Lib.hid hx6
  clear hl1 hl2 hl3 hl4 hl5 hl6 he1 he2 he3 he4 he5 he6 he7 hx1 hX2 hX3 hx4 hx5 hx6
  clear hrd hH hE hh1 hh2 hh3 hh4 hh5 hh6
  clear hl0 he0 hh0
  go_enter Tryd.func8, Tryd.ntmps8
  go_upto_region 1 with fail
  rw [← hw0]
  clear hw0
  go_upto_region 3 with (go_at_call 22; refine HC.out.mono ?_; rintro e' w1 ⟨q, rfl, hq, hR1, hb1⟩)
  have hlt1 := hR1.lt
  have hR2 := hR1.wide (below_al (Below.refl _ w1) (.cells Hd.zero.cells.toArray 26))
  have hbk2 : Blk (w1.alloc (.cells Hd.zero.cells.toArray 26)) w1.heap.size Hd.zero.cells 26 := Blk.new w1 _ _
  have hb2 := below_al (below_more HB.out hb1) (.cells Hd.zero.cells.toArray 26)
  have hrs2 : Blk (w1.alloc (.cells Hd.zero.cells.toArray 26)) w.heap.size Hd.zero.cells 26 := (hb0.up hb1).alloc _
  obtain ⟨g, hg⟩ : ∃ g, g = w1.heap.size := ⟨_, rfl⟩
  obtain ⟨w2, hw2⟩ : ∃ w2, w2 = w1.alloc (.cells Hd.zero.cells.toArray 26) := ⟨_, rfl⟩
  rw [← hw2] at hR2 hbk2 hb2 hrs2 ⊢
  rw [← hg] at hR2 hbk2 hlt1
  (try rw [← hg])
  have P0 : Hid (PS w q g w.heap.size w2 h0 l0 e0) := Lib.hid (by
    obtain ⟨k1, k2, k3⟩ := HEQ0.out
    rw [k1, k2, k3]
    exact ⟨hR2, hbk2, hrs2, hb2, by omega, by omega, Nat.le_refl _⟩)
  clear hR2 hbk2 hrs2 hb2 hw2 hR1 hb1 HC hb0 HEQ0 hg hq hlt1 hs0
  have C1 := Lib.hid (P0.out.num l1 e1 x1 Hl1.out He1.out Hx1.out)
  go_upto_region 4 with (go_at_call 23; refine C1.out.mono ?_; rintro e' w3 ⟨rfl, hP1⟩; have hc1 : w3.cell? ⟨g, 0, none⟩ = some (.int .u32 ((h0.v : Nat) : Int)) := hP1.blk.cell 0 |>.trans (OK0.out.cv); have hz1 : w3.frozen? ⟨g, 0, none⟩ = false := hP1.blk.free 0; have HP1 := Lib.hid hP1; clear hP1)
  have Q1 := HP1.out.set 0 (.int .u32 (x1 : Int)) h1 (EQ1.out)
  obtain ⟨v1, hv1⟩ : ∃ v, v = w3.setCell ⟨g, 0, none⟩ (.int .u32 (x1 : Int)) := ⟨_, rfl⟩
  rw [← hv1] at Q1
  rw [← hv1]
  have P1 := Lib.hid Q1
  clear hv1 Q1 HP1 C1 P0 hc1 hz1 w3
  have C2 := Lib.hid (P1.out.hash l2 e2 X2 Hl2.out He2.out HX2.out)
  go_upto_region 5 with (first
    | (go_at_call 24; refine C2.out.mono ?_; rintro e' w4 ⟨rfl, hP2⟩; have HP2 := Lib.hid hP2; clear hP2)
    | ((with_reducible refine at_store 24 (.tmp 15) (.tmp 14) ?_); refine wpList_store_over rfl 24 (.tmp 15) (.tmp 14) rfl g 1 h1.cells X2 26 rfl rfl HP2.out.blk LL2.out (IX2.out) (OX2.out) ?_; intro v2 hb2 ho2))
  have P2 := Lib.hid (HP2.out.over h2 (by have := hb2; rw [EQ2.out] at this; exact this) ho2)
  clear hb2 ho2 HP2 C2 P1 w4
  have C3 := Lib.hid (P2.out.hash l3 e3 X3 Hl3.out He3.out HX3.out)
  go_upto_region 6 with (first
    | (go_at_call 24; refine C3.out.mono ?_; rintro e' w5 ⟨rfl, hP3⟩; have HP3 := Lib.hid hP3; clear hP3)
    | ((with_reducible refine at_store 24 (.tmp 18) (.tmp 17) ?_); refine wpList_store_over rfl 24 (.tmp 18) (.tmp 17) rfl g 33 h2.cells X3 26 rfl rfl HP3.out.blk LL3.out (IX3.out) (OX3.out) ?_; intro v3 hb3 ho3))
  have P3 := Lib.hid (HP3.out.over h3 (by have := hb3; rw [EQ3.out] at this; exact this) ho3)
  clear hb3 ho3 HP3 C3 P2 w5
  have C4 := Lib.hid (P3.out.num l4 e4 x4 Hl4.out He4.out Hx4.out)
  go_upto_region 7 with (go_at_call 23; refine C4.out.mono ?_; rintro e' w6 ⟨rfl, hP4⟩; have hc4 : w6.cell? ⟨g, 65, none⟩ = some (.int .u32 ((h3.t : Nat) : Int)) := hP4.blk.cell 65 |>.trans (OK3.out.ct); have hz4 : w6.frozen? ⟨g, 65, none⟩ = false := hP4.blk.free 65; have HP4 := Lib.hid hP4; clear hP4)
  have Q4 := HP4.out.set 65 (.int .u32 (x4 : Int)) h4 (EQ4.out)
  obtain ⟨v4, hv4⟩ : ∃ v, v = w6.setCell ⟨g, 65, none⟩ (.int .u32 (x4 : Int)) := ⟨_, rfl⟩
  rw [← hv4] at Q4
  rw [← hv4]
  have P4 := Lib.hid Q4
  clear hv4 Q4 HP4 C4 P3 hc4 hz4 w6
  have C5 := Lib.hid (P4.out.num l5 e5 x5 Hl5.out He5.out Hx5.out)
  go_upto_region 8 with (go_at_call 23; refine C5.out.mono ?_; rintro e' w7 ⟨rfl, hP5⟩; have hc5 : w7.cell? ⟨g, 66, none⟩ = some (.int .u32 ((h4.b : Nat) : Int)) := hP5.blk.cell 66 |>.trans (OK4.out.cb); have hz5 : w7.frozen? ⟨g, 66, none⟩ = false := hP5.blk.free 66; have HP5 := Lib.hid hP5; clear hP5)
  have Q5 := HP5.out.set 66 (.int .u32 (x5 : Int)) h5 (EQ5.out)
  obtain ⟨v5, hv5⟩ : ∃ v, v = w7.setCell ⟨g, 66, none⟩ (.int .u32 (x5 : Int)) := ⟨_, rfl⟩
  rw [← hv5] at Q5
  rw [← hv5]
  have P5 := Lib.hid Q5
  clear hv5 Q5 HP5 C5 P4 hc5 hz5 w7
  have C6 := Lib.hid (P5.out.num l6 e6 x6 Hl6.out He6.out Hx6.out)
  go_upto_region 9 with (go_at_call 23; refine C6.out.mono ?_; rintro e' w8 ⟨rfl, hP6⟩; have hc6 : w8.cell? ⟨g, 67, none⟩ = some (.int .u32 ((h5.n : Nat) : Int)) := hP6.blk.cell 67 |>.trans (OK5.out.cn); have hz6 : w8.frozen? ⟨g, 67, none⟩ = false := hP6.blk.free 67; have HP6 := Lib.hid hP6; clear hP6)
  have Q6 := HP6.out.set 67 (.int .u32 (x6 : Int)) h6 (EQ6.out)
  obtain ⟨v6, hv6⟩ : ∃ v, v = w8.setCell ⟨g, 67, none⟩ (.int .u32 (x6 : Int)) := ⟨_, rfl⟩
  rw [← hv6] at Q6
  rw [← hv6]
  have P6 := Lib.hid Q6
  clear hv6 Q6 HP6 C6 P5 hc6 hz6 w8
  have C7 := Lib.hid (P6.out.end_ e7 He7.out)
  by_cases hz : e7 = 0
  · rw [if_pos hz]
    have hzi : decide ((e7 : Int) = 0) = true := by simp [hz]
    have hzn : (e7 : Int) = 0 := by omega
    go_wp2_with (first
      | (go_at_call 25; refine C7.out.mono ?_; rintro e' w9 ⟨rfl, hP9⟩; have HP9 := Lib.hid hP9; clear hP9)
      | ((with_reducible refine at_load 26 (.tmp 5) ?_); refine wpList_load_mid rfl 26 (.tmp 5) rfl g 0 rfl h6.cells _ HP9.out.blk.range Tryd.underlying26 rfl S6.out ?_)
      | ((with_reducible refine at_store 26 (.tmp 2) (.tmp 37) ?_); refine wpList_store_blk rfl 26 (.tmp 2) (.tmp 37) rfl w.heap.size Hd.zero.cells h6.cells 26 rfl rfl HP9.out.res LZ.out S6.out (Hd.one h6) ?_; intro w10 hb10 ho10))
    refine bodyPost_ret (v := .tuple #[.agg h6.cells.toArray, .int .i64 0]) ?_ rfl ⟨rfl, below_only HP9.out.bel ho10 (Nat.le_refl _)⟩
    exact results_err Tryd.results8 _ _ w.heap.size 26 _ _ _ (by rfl) (by rfl) hb10 Tryd.underlying26 rfl S6.out
  · rw [if_neg hz]
    have hzi : decide ((e7 : Int) = 0) = false := by simp; omega
    have hzn : ¬ (e7 : Int) = 0 := by omega
    go_wp2_with (first
      | (go_at_call 25; refine C7.out.mono ?_; rintro e' w9 ⟨rfl, hP9⟩; have HP9 := Lib.hid hP9; clear hP9)
      | ((with_reducible refine at_store 26 (.tmp 2) (.tmp 35) ?_); refine wpList_store_blk rfl 26 (.tmp 2) (.tmp 35) rfl w.heap.size Hd.zero.cells Hd.zero.cells 26 rfl rfl HP9.out.res rfl S0.out (Hd.one Hd.zero) ?_; intro w10 hb10 ho10))
    refine bodyPost_ret (v := .tuple #[.agg Hd.zero.cells.toArray, .int .i64 (e7 : Int)]) ?_ rfl ⟨rfl, below_only HP9.out.bel ho10 (Nat.le_refl _)⟩
    exact results_err Tryd.results8 _ _ w.heap.size 26 _ _ _ (by rfl) (by rfl) hb10 Tryd.underlying26 rfl S0.out
end Go.Proofs.YthpigninbeommaaDoor
