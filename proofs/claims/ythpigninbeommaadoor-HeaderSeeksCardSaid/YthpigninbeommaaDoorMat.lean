/- Merged texts: CodH HdrM. -/
import Derived.Test.YthpigninbeommaaDoorMas
import Derived.Laws.IdiomCopy
/- The contract of a reader's Hash. -/
namespace Go.Proofs.YthpigninbeommaaDoor
open Go.RowKit
set_option linter.unusedVariables false
set_option linter.unusedSimpArgs false

def zerosH : List Value := [.int .u8 0, .int .u8 0, .int .u8 0, .int .u8 0, .int .u8 0, .int .u8 0, .int .u8 0, .int .u8 0, .int .u8 0, .int .u8 0, .int .u8 0, .int .u8 0, .int .u8 0, .int .u8 0, .int .u8 0, .int .u8 0, .int .u8 0, .int .u8 0, .int .u8 0, .int .u8 0, .int .u8 0, .int .u8 0, .int .u8 0, .int .u8 0, .int .u8 0, .int .u8 0, .int .u8 0, .int .u8 0, .int .u8 0, .int .u8 0, .int .u8 0, .int .u8 0]
set_option maxRecDepth 100000 in
theorem zerosH_len : zerosH.length = 32 := rfl
/-- A hash that is taken: its bytes, or zeros. -/
def hsh (l : List UInt8) (e : Nat) : List UInt8 := tkV l e 32 ++ List.replicate (32 - (tkV l e 32).length) 0
set_option maxRecDepth 100000 in
theorem hsh_len (l : List UInt8) (e : Nat) : (hsh l e).length = 32 := by
  have := tkV_len l e 32
  simp [hsh]; omega
set_option maxRecDepth 100000 in
theorem zerosH_drop (m : Nat) : zerosH.drop m = (List.replicate (32 - m) (0 : UInt8)).map B8 := by
  have : zerosH = List.replicate 32 (B8 0) := rfl
  rw [this, List.drop_replicate, List.map_replicate]
set_option maxRecDepth 100000 in
theorem hsh_cells (l : List UInt8) (e m : Nat) (h : m = (tkV l e 32).length) : (tkV l e 32).map B8 ++ zerosH.drop m = (hsh l e).map B8 := by
  rw [zerosH_drop, h, hsh, List.map_append]
set_option maxRecDepth 100000 in
theorem b8s_one (l : List UInt8) : ∀ v ∈ l.map B8, v.oneCell' = true := fun v hv => by
  simp only [List.mem_map] at hv
  obtain ⟨x, _, rfl⟩ := hv
  rfl
set_option maxRecDepth 100000 in
/-- copy of a slice that a call made into an array of 32 bytes. -/
theorem wp_copy_own {o : Oper} {a : Act} {K : Act → World → Prop} {Q : Exit → Act → World → Prop} (w : World) (d s : Operand)
    (ho : o.op = .call { callee := .builtin .copy, args := #[d, s], argTypes := #[27, 27] }) (g : Nat) (hd : a.eval d = .slice (some ⟨g, 0, none⟩) 32 32)
    (A : Option Addr) (m c : Nat) (l : List UInt8) (hs : a.eval s = .slice A m c) {base : Nat} (hown : Own w base A m c l) (hm : m ≤ 32) (cur : List Value) (t : TypeId) (hb : Blk w g cur t) (hcur : cur.length = 32)
    (h : ∀ w', Blk w' g (l.map B8 ++ cur.drop m) t → Only g w w' → K (a.put o.dst (goInt m)) w') : o.wp Tryd.prog a w K Q := by
  have hl := hown.len
  rcases hown.2.2 with ⟨hv, h0⟩ | ⟨g', cap, cur', hv, _, hh, hn, _, hc, ht⟩
  · injection hv with e1 e2 e3
    subst e1 e3 h0
    have hl0 : l = [] := List.eq_nil_of_length_eq_zero hl
    subst hl0
    have hrun : (Builtin.copy_ #[27, 27] o.type #[.slice (some ⟨g, 0, none⟩) 32 32, .slice none 0 0]).run Tryd.prog w = .ok (goInt 0) w := by
      obtain ⟨i, hi, hsz⟩ := Option.map_eq_some_iff.1 size8
      simp [Builtin.copy_, run_underlying Tryd.underlying27, sizeOf, typeInfo, hi, hsz, Builtin.lenOf, Builtin.firstCells, storeCells, loadCells]
    unfold Oper.wp
    simp [execOp, ho, resolve, invoke, builtin, hd, hs, hrun, Result.andThen]
    exact h w (by simpa using hb) (Only.refl _ _)
  · injection hv with e1 e2 e3
    subst e1
    have hsrc : ∀ j v, (l.map B8)[j]? = some v → w.cell? ((⟨g', 0, none⟩ : Addr).add j) = some v := fun j v hj => by
      have hjl : j < l.length := by have := (List.getElem?_eq_some_iff.1 hj).1; simpa using this
      have h1 := hown.cell hjl
      rw [Addr.add_mid, Nat.zero_add, h1]
      rw [List.getElem?_map, List.getElem?_eq_getElem hjl] at hj
      simpa [B8] using hj
    have hnm : (l.map B8).length = Nat.min m 32 := by rw [List.length_map, hl]; exact (Nat.min_eq_left hm).symm
    have hfit : 0 + (l.map B8).length ≤ cur.length := by rw [List.length_map]; omega
    have hrun := run_copy_cells (P := Tryd.prog) w 27 27 o.type 5 g 0 32 32 ⟨g', 0, none⟩ m c (l.map B8) Tryd.underlying27 size8 hnm hsrc (fun j hj => (hb.there 0 (l.map B8).length hfit j hj).1) (fun j hj => (hb.there 0 (l.map B8).length hfit j hj).2) (b8s_one l)
    unfold Oper.wp
    simp only [execOp, ho, resolve, invoke, builtin, Sem.run_bind, Sem.run_pure, Result.andThen_ok, List.map_toArray, List.map_cons, List.map_nil, hd, hs, hrun]
    have hset := Blk.setCells (l.map B8) w cur 0 hb hfit
    have e5 : over cur 0 (l.map B8) = l.map B8 ++ cur.drop m := by unfold over; rw [List.take_zero, List.nil_append, Nat.zero_add, List.length_map, hl]
    rw [e5] at hset
    have := h _ hset (Only.setCells _ _ _ _ (Only.refl _ _))
    rw [List.length_map, hl]
    exact this
set_option maxRecDepth 100000 in
set_option maxHeartbeats 4000000 in
theorem rhash_calls (w : World) (q : Nat) (l : List UInt8) (e : Nat) {S : Nat → Prop} (hR : Rr w q l e S) (hS : S q := by rfl) :
    Calls Tryd.prog 24 #[.pointer (some ⟨q, 0, none⟩)] w fun en w' => en = .returned (.agg ((hsh l e).map B8).toArray) ∧ Rr w' q (tkL l e 32) (tkE l e 32) S ∧ Frm (fun i => i = q) w w' := by
  obtain ⟨V, hV⟩ : ∃ V, V = (hsh l e).map B8 := ⟨_, rfl⟩
  have IV : Hid ((Tryd.prog.info? 24).map (·.size) = some V.length) := Lib.hid (by
    rw [hV, List.length_map, hsh_len]
    kernel_rfl)
  have LV : Hid (zerosH.length = V.length) := Lib.hid (by rw [hV, List.length_map, hsh_len]; rfl)
  have OV : Hid (∀ v ∈ V, v.oneCell' = true) := Lib.hid (by rw [hV]; exact b8s_one _)
  have HV : Hid (∀ m, m = (tkV l e 32).length → (tkV l e 32).map B8 ++ zerosH.drop m = V) := Lib.hid fun m h => by rw [hV]; exact hsh_cells l e m h
  have hq := hR.lt
  have hb0 : Blk ((w.alloc (.cells #[.int .u8 0, .int .u8 0, .int .u8 0, .int .u8 0, .int .u8 0, .int .u8 0, .int .u8 0, .int .u8 0, .int .u8 0, .int .u8 0, .int .u8 0, .int .u8 0, .int .u8 0, .int .u8 0, .int .u8 0, .int .u8 0, .int .u8 0, .int .u8 0, .int .u8 0, .int .u8 0, .int .u8 0, .int .u8 0, .int .u8 0, .int .u8 0, .int .u8 0, .int .u8 0, .int .u8 0, .int .u8 0, .int .u8 0, .int .u8 0, .int .u8 0, .int .u8 0] 24)).alloc (.cells #[.int .u8 0, .int .u8 0, .int .u8 0, .int .u8 0, .int .u8 0, .int .u8 0, .int .u8 0, .int .u8 0, .int .u8 0, .int .u8 0, .int .u8 0, .int .u8 0, .int .u8 0, .int .u8 0, .int .u8 0, .int .u8 0, .int .u8 0, .int .u8 0, .int .u8 0, .int .u8 0, .int .u8 0, .int .u8 0, .int .u8 0, .int .u8 0, .int .u8 0, .int .u8 0, .int .u8 0, .int .u8 0, .int .u8 0, .int .u8 0, .int .u8 0, .int .u8 0] 24)) w.heap.size zerosH 24 := Blk.alloc (Blk.new w _ _) _
  have hb1 : Blk ((w.alloc (.cells #[.int .u8 0, .int .u8 0, .int .u8 0, .int .u8 0, .int .u8 0, .int .u8 0, .int .u8 0, .int .u8 0, .int .u8 0, .int .u8 0, .int .u8 0, .int .u8 0, .int .u8 0, .int .u8 0, .int .u8 0, .int .u8 0, .int .u8 0, .int .u8 0, .int .u8 0, .int .u8 0, .int .u8 0, .int .u8 0, .int .u8 0, .int .u8 0, .int .u8 0, .int .u8 0, .int .u8 0, .int .u8 0, .int .u8 0, .int .u8 0, .int .u8 0, .int .u8 0] 24)).alloc (.cells #[.int .u8 0, .int .u8 0, .int .u8 0, .int .u8 0, .int .u8 0, .int .u8 0, .int .u8 0, .int .u8 0, .int .u8 0, .int .u8 0, .int .u8 0, .int .u8 0, .int .u8 0, .int .u8 0, .int .u8 0, .int .u8 0, .int .u8 0, .int .u8 0, .int .u8 0, .int .u8 0, .int .u8 0, .int .u8 0, .int .u8 0, .int .u8 0, .int .u8 0, .int .u8 0, .int .u8 0, .int .u8 0, .int .u8 0, .int .u8 0, .int .u8 0, .int .u8 0] 24)) (w.heap.size + 1) zerosH 24 := Blk.new' _ _ _ _ (by simp)
  have HB := below2 w (.cells #[.int .u8 0, .int .u8 0, .int .u8 0, .int .u8 0, .int .u8 0, .int .u8 0, .int .u8 0, .int .u8 0, .int .u8 0, .int .u8 0, .int .u8 0, .int .u8 0, .int .u8 0, .int .u8 0, .int .u8 0, .int .u8 0, .int .u8 0, .int .u8 0, .int .u8 0, .int .u8 0, .int .u8 0, .int .u8 0, .int .u8 0, .int .u8 0, .int .u8 0, .int .u8 0, .int .u8 0, .int .u8 0, .int .u8 0, .int .u8 0, .int .u8 0, .int .u8 0] 24) (.cells #[.int .u8 0, .int .u8 0, .int .u8 0, .int .u8 0, .int .u8 0, .int .u8 0, .int .u8 0, .int .u8 0, .int .u8 0, .int .u8 0, .int .u8 0, .int .u8 0, .int .u8 0, .int .u8 0, .int .u8 0, .int .u8 0, .int .u8 0, .int .u8 0, .int .u8 0, .int .u8 0, .int .u8 0, .int .u8 0, .int .u8 0, .int .u8 0, .int .u8 0, .int .u8 0, .int .u8 0, .int .u8 0, .int .u8 0, .int .u8 0, .int .u8 0, .int .u8 0] 24)
  have hs0 : ((w.alloc (.cells #[.int .u8 0, .int .u8 0, .int .u8 0, .int .u8 0, .int .u8 0, .int .u8 0, .int .u8 0, .int .u8 0, .int .u8 0, .int .u8 0, .int .u8 0, .int .u8 0, .int .u8 0, .int .u8 0, .int .u8 0, .int .u8 0, .int .u8 0, .int .u8 0, .int .u8 0, .int .u8 0, .int .u8 0, .int .u8 0, .int .u8 0, .int .u8 0, .int .u8 0, .int .u8 0, .int .u8 0, .int .u8 0, .int .u8 0, .int .u8 0, .int .u8 0, .int .u8 0] 24)).alloc (.cells #[.int .u8 0, .int .u8 0, .int .u8 0, .int .u8 0, .int .u8 0, .int .u8 0, .int .u8 0, .int .u8 0, .int .u8 0, .int .u8 0, .int .u8 0, .int .u8 0, .int .u8 0, .int .u8 0, .int .u8 0, .int .u8 0, .int .u8 0, .int .u8 0, .int .u8 0, .int .u8 0, .int .u8 0, .int .u8 0, .int .u8 0, .int .u8 0, .int .u8 0, .int .u8 0, .int .u8 0, .int .u8 0, .int .u8 0, .int .u8 0, .int .u8 0, .int .u8 0] 24)).heap.size = w.heap.size + 2 := by simp
  obtain ⟨w0, hw0⟩ : ∃ w0, w0 = (w.alloc (.cells #[.int .u8 0, .int .u8 0, .int .u8 0, .int .u8 0, .int .u8 0, .int .u8 0, .int .u8 0, .int .u8 0, .int .u8 0, .int .u8 0, .int .u8 0, .int .u8 0, .int .u8 0, .int .u8 0, .int .u8 0, .int .u8 0, .int .u8 0, .int .u8 0, .int .u8 0, .int .u8 0, .int .u8 0, .int .u8 0, .int .u8 0, .int .u8 0, .int .u8 0, .int .u8 0, .int .u8 0, .int .u8 0, .int .u8 0, .int .u8 0, .int .u8 0, .int .u8 0] 24)).alloc (.cells #[.int .u8 0, .int .u8 0, .int .u8 0, .int .u8 0, .int .u8 0, .int .u8 0, .int .u8 0, .int .u8 0, .int .u8 0, .int .u8 0, .int .u8 0, .int .u8 0, .int .u8 0, .int .u8 0, .int .u8 0, .int .u8 0, .int .u8 0, .int .u8 0, .int .u8 0, .int .u8 0, .int .u8 0, .int .u8 0, .int .u8 0, .int .u8 0, .int .u8 0, .int .u8 0, .int .u8 0, .int .u8 0, .int .u8 0, .int .u8 0, .int .u8 0, .int .u8 0] 24) := ⟨_, rfl⟩
  rw [← hw0] at hb0 hb1 HB hs0
  have hR0 : Rr w0.drew q l e (fun i => S i ∨ w.heap.size ≤ i) := (hR.wide HB).drew
  have CT : Hid (∀ W, Rr W q l e (fun i => S i ∨ w.heap.size ≤ i) → Calls Tryd.prog 37 #[.pointer (some ⟨q, 0, none⟩), .int .i64 32] W fun en w' => ∃ A m c, en = .returned (.slice A m c) ∧ Own w' W.heap.size A m c (tkV l e 32) ∧ Rr w' q (tkL l e 32) (tkE l e 32) (fun i => S i ∨ w.heap.size ≤ i) ∧ Frm (fun i => i = q) W w') := Lib.hid fun W h => take_calls W q l e h 32 32 rfl (.inl hS)
  have FF : Hid (∀ v1 {w5 : World}, Frm (fun i => i = q) w0.drew v1 → Only (w.heap.size + 1) v1 w5 → Frm (fun i => i = q) w w5) := Lib.hid fun v1 w5 h1 h2 =>
    ((Frm.of_below HB).step (Frm.undrew h1) (fun i hi => .inl hi)).step (Frm.only (S := fun i => i = w.heap.size + 1) h2 rfl) (fun i hi => .inr (by omega))
  have FG : Hid (∀ w5 w6, Frm (fun i => i = q) w w5 → Only w.heap.size w5 w6 → Frm (fun i => i = q) w w6) := Lib.hid fun w5 w6 h1 h2 =>
    h1.step (Frm.only (S := fun i => i = w.heap.size) h2 rfl) (fun i hi => .inr (by omega))
  have HRR : Hid (∀ v1 w5 w6, Rr v1 q (tkL l e 32) (tkE l e 32) (fun i => S i ∨ w.heap.size ≤ i) → Only (w.heap.size + 1) v1 w5 → Only w.heap.size w5 w6 → Rr w6 q (tkL l e 32) (tkE l e 32) S) := Lib.hid fun v1 w5 w6 h1 h2 h3 =>
    h1.narrow (fun i hi => .inl hi) ((h3.block q (by omega)).trans (h2.block q (by omega))) ((Frm.only h2 (.inr (by omega))).trans (Frm.only h3 (.inr (by omega))))
  rw [← hV]
  clear hV hR HB
  go_enter Tryd.func24, Tryd.ntmps24
  go_upto_region 2 with fail
  rw [← hw0]
  clear hw0
  refine wp_region_held_drew (S := fun W => True) (by kernel_rfl) ?_ (fun hHeld => ?_)
  · trivial
  refine wpAnyH_take (i := 0) (v := ?_) rfl (by kernel_rfl) (by kernel_rfl) (by kernel_rfl) (fun _ _ _ h => h) (Or.inl ⟨by rfl, ?_⟩) (by assumption) ?_
  rotate_left 1
  · intro w hSw; (try dsimp only at hSw); simp only [List.getElem_toArray, List.getElem_cons_succ, List.getElem_cons_zero]; go_simp; try (with_reducible rfl)
  (try simp only [List.getElem_toArray, List.getElem_cons_succ, List.getElem_cons_zero, Act.put, List.setIfInBounds_toArray, List.set_cons_succ, List.set_cons_zero])
  refine wpAnyH_take (i := 1) (v := ?_) rfl (by kernel_rfl) (by kernel_rfl) (by kernel_rfl) (fun _ _ _ h => h) (Or.inl ⟨by rfl, ?_⟩) (by assumption) ?_
  rotate_left 1
  · intro w hSw; (try dsimp only at hSw); simp only [List.getElem_toArray, List.getElem_cons_succ, List.getElem_cons_zero]; go_simp; try (with_reducible rfl)
  (try simp only [List.getElem_toArray, List.getElem_cons_succ, List.getElem_cons_zero, Act.put, List.setIfInBounds_toArray, List.set_cons_succ, List.set_cons_zero])
  refine wpAnyH_ready (rs := [2]) (by kernel_rfl) (by simp) ?_
  refine AllReadyH.cons rfl (fun K hK => ?_) AllReadyH.nil
  (try simp only [List.getElem_toArray, List.getElem_cons_succ, List.getElem_cons_zero])
  go_simp
  go_at_call 37; refine (CT.out _ hR0).mono ?_; rintro e' v1 ⟨A1, n1, c1, rfl, ho1, hr1, hf1⟩; have hz1 := hf1.blk hb1.dr (by omega); have hz0 := hf1.blk hb0.dr (by omega)
  (try (go_wp2_with fail))
  refine hK.out _ _ ?_ (fun hHeld => ?_)
  · trivial
  clear hK K
  (try simp only [Act.put, List.setIfInBounds_toArray, List.set_cons_succ, List.set_cons_zero])
  refine wpAnyH_ready (rs := [3]) (by kernel_rfl) (by simp) ?_
  refine AllReadyH.cons rfl (fun K hK => ?_) AllReadyH.nil
  (try simp only [List.getElem_toArray, List.getElem_cons_succ, List.getElem_cons_zero])
  refine Eq.mpr (if_pos (by rfl)) ?_
  refine wp_copy_own v1 _ _ rfl (w.heap.size + 1) rfl A1 n1 c1 _ rfl ho1 (by have h1 := ho1.len; have h2 := tkV_len l e 32; omega) zerosH 24 hz1 zerosH_len ?_
  intro w5 hb5 ho5
  refine hK.out _ _ ?_ (fun hHeld => ?_)
  · trivial
  clear hK K
  (try simp only [Act.put, List.setIfInBounds_toArray, List.set_cons_succ, List.set_cons_zero])
  refine wpAnyH_done (by kernel_rfl) ?_ _
  have hz5 := ho5.blk hz0 (by omega)
  rw [HV.out n1 ho1.len.symm] at hb5
  go_wp2_with (first
| ((with_reducible refine at_load 24 (.tmp 3) ?_); refine wpList_load_mid rfl 24 (.tmp 3) rfl (w.heap.size + 1) 0 rfl V _ hb5.range Tryd.underlying24 rfl IV.out ?_)
| ((with_reducible refine at_store 24 (.tmp 2) (.tmp 8) ?_); refine wpList_store_blk rfl 24 (.tmp 2) (.tmp 8) rfl w.heap.size zerosH V 24 rfl rfl hz5 LV.out IV.out OV.out ?_; intro w6 hb6 ho6))
  have hF5 : Frm (fun i => i = q) w w5 := FF.out _ hf1 ho5
  refine bodyPost_ret (v := .agg V.toArray) ?_ rfl ⟨rfl, ?_, ?_⟩
  · exact results_one Tryd.results24 _ _ w.heap.size 24 _ (0, 0) _ (by rfl) hb6 Tryd.underlying24 rfl IV.out
  · exact HRR.out _ _ _ hr1 ho5 ho6
  · exact FG.out _ _ hF5 ho6
end Go.Proofs.YthpigninbeommaaDoor

/- Words for headers: their cells and their bytes. -/
namespace Go.Proofs.YthpigninbeommaaDoor
open Go.RowKit
set_option linter.unusedVariables false

/-- A header: its version, the hash ahead, its root, its time, its bits, its nonce. -/
structure Hd where
  v : Nat
  p : List UInt8
  r : List UInt8
  t : Nat
  b : Nat
  n : Nat
structure Hd.ok (h : Hd) : Prop where
  v : h.v < 4294967296
  p : h.p.length = 32
  r : h.r.length = 32
  t : h.t < 4294967296
  b : h.b < 4294967296
  n : h.n < 4294967296
def Hd.cells (h : Hd) : List Value := .int .u32 (h.v : Int) :: (h.p.map B8 ++ (h.r.map B8 ++ [.int .u32 (h.t : Int), .int .u32 (h.b : Int), .int .u32 (h.n : Int)]))
/-- The 80 bytes of a header. -/
def Hd.bytes (h : Hd) : List UInt8 := little h.v 4 ++ (h.p ++ (h.r ++ (little h.t 4 ++ (little h.b 4 ++ little h.n 4))))
set_option maxRecDepth 100000 in
theorem Hd.cells_len {h : Hd} (o : h.ok) : h.cells.length = 68 := by simp [Hd.cells, o.p, o.r]
set_option maxRecDepth 100000 in
theorem Hd.bytes_len {h : Hd} (o : h.ok) : h.bytes.length = 80 := by simp [Hd.bytes, o.p, o.r]
set_option maxRecDepth 100000 in
theorem Hd.one (h : Hd) : ∀ v ∈ h.cells, v.oneCell' = true := by
  intro v hv
  simp only [Hd.cells, List.mem_cons, List.mem_append, List.mem_map, List.not_mem_nil, or_false] at hv
  rcases hv with rfl | ⟨x, _, rfl⟩ | ⟨x, _, rfl⟩ | rfl | rfl | rfl <;> rfl
set_option maxRecDepth 100000 in
theorem Hd.c0 (h : Hd) : h.cells[0]? = some (.int .u32 (h.v : Int)) := rfl
set_option maxRecDepth 100000 in
theorem Hd.cp {h : Hd} (o : h.ok) (j : Nat) (hj : j < h.p.length) : h.cells[1 + j]? = some (.int .u8 (h.p[j].toNat : Int)) := by
  unfold Hd.cells
  rw [Nat.add_comm 1, List.getElem?_cons_succ, List.getElem?_append_left (by simpa using hj), List.getElem?_map, List.getElem?_eq_getElem hj]
  rfl
set_option maxRecDepth 100000 in
theorem Hd.cr {h : Hd} (o : h.ok) (j : Nat) (hj : j < h.r.length) : h.cells[33 + j]? = some (.int .u8 (h.r[j].toNat : Int)) := by
  unfold Hd.cells
  have hp := o.p
  rw [show 33 + j = (32 + j) + 1 from by omega, List.getElem?_cons_succ, List.getElem?_append_right (by simp; omega), List.length_map, hp, show 32 + j - 32 = j from by omega, List.getElem?_append_left (by simpa using hj), List.getElem?_map, List.getElem?_eq_getElem hj]
  rfl
set_option maxRecDepth 100000 in
theorem Hd.ct {h : Hd} (o : h.ok) : h.cells[65]? = some (.int .u32 (h.t : Int)) ∧ h.cells[66]? = some (.int .u32 (h.b : Int)) ∧ h.cells[67]? = some (.int .u32 (h.n : Int)) := by
  have hp := o.p
  have hr := o.r
  have key : ∀ j, h.cells[65 + j]? = [Value.int .u32 (h.t : Int), .int .u32 (h.b : Int), .int .u32 (h.n : Int)][j]? := fun j => by
    unfold Hd.cells
    rw [show 65 + j = (64 + j) + 1 from by omega, List.getElem?_cons_succ, List.getElem?_append_right (by simp; omega), List.length_map, hp, List.getElem?_append_right (by simp; omega), List.length_map, hr]
    congr 1
    omega
  exact ⟨key 0, key 1, key 2⟩
set_option maxRecDepth 100000 in
theorem little4_inj {a b : Nat} (ha : a < 4294967296) (hb : b < 4294967296) (h : little a 4 = little b 4) : a = b := by
  have := congrArg numL h
  rw [numL_little, numL_little] at this
  have e : (256 : Nat) ^ 4 = 4294967296 := by decide
  rw [e, Nat.mod_eq_of_lt ha, Nat.mod_eq_of_lt hb] at this
  exact this
set_option maxRecDepth 100000 in
/-- Two headers of the same bytes are one. -/
theorem Hd.bytes_inj {g h : Hd} (og : g.ok) (oh : h.ok) (e : g.bytes = h.bytes) : g = h := by
  obtain ⟨gv, gp, gr, gt, gb, gn⟩ := g
  obtain ⟨hv, hp, hr, ht, hb, hn⟩ := h
  unfold Hd.bytes at e
  simp only at e
  have e1 := List.append_inj e (by simp)
  have e2 := List.append_inj e1.2 (by rw [og.p, oh.p])
  have e3 := List.append_inj e2.2 (by rw [og.r, oh.r])
  have e4 := List.append_inj e3.2 (by simp)
  have e5 := List.append_inj e4.2 (by simp)
  have := little4_inj og.v oh.v e1.1
  have := little4_inj og.t oh.t e4.1
  have := little4_inj og.b oh.b e5.1
  have := little4_inj og.n oh.n e5.2
  have := e2.1
  have := e3.1
  simp_all
end Go.Proofs.YthpigninbeommaaDoor
