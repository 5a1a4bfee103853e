/- Merged texts: CodW CodR. -/
import Derived.Test.YthkkllcpogagiaaDoorMam
/- Contracts of a writer's methods: New, Put, Num, Var, Text, Len, Bytes. -/
namespace Go.Proofs.YthkkllcpogagiaaDoor
open Go.RowKit
set_option linter.unusedVariables false

set_option maxRecDepth 100000 in
theorem frm_grown {w w' : World} {A : Option Addr} {n c : Nat} (h : w.grownBy w' (Value.ownBlock (.slice A n c))) : Frm (fun i => blkOf A = some i) w w' :=
  ⟨h.os, h.tape, h.output, h.size, fun i hi hS => h.block i hi (fun e => hS (by cases A with | none => simp [Value.ownBlock] at e | some a => simpa [Value.ownBlock, blkOf] using e.symm))⟩
set_option maxRecDepth 100000 in
theorem own_blkOf (A : Option Addr) (n c : Nat) : Value.ownBlock (.slice A n c) = blkOf A := by cases A <;> rfl
set_option maxRecDepth 100000 in
/-- append onto a writer's bytes. -/
theorem app8_wr {ops : Array Oper} {rest : List Oper} {o : Oper} {a : Act} {Q : Exit → Act → World → Prop} (w : World) (hgd : o.guard = none) (s x : Operand)
    (ho : o.op = .call { callee := .builtin .append, args := #[s, x], argTypes := #[28, 28] })
    (p : Nat) (A : Option Addr) (c : Nat) (l : List UInt8) (X : Option Addr) (m cx : Nat) (r : List UInt8) (hs : a.eval s = .slice A l.length c) (hx : a.eval x = .slice X m cx)
    (hW : Wr w p A c l) (hr : Rd w X m r) (hb : l.length + m ≤ 140737488355328)
    (h : ∀ A' c' w', Blk w' p [.slice A l.length c] 67 → Own w' 0 A' (l.length + m) c' (l ++ r) → blkOf A' ≠ some p → Frm (fun i => blkOf A = some i) w w' → (∀ g, blkOf A' = some g → blkOf A = some g ∨ w.heap.size ≤ g) → wpList Tryd.prog ops Q rest (a.put o.dst (.slice A' (l.length + m) c')) w') :
    wpList Tryd.prog ops Q (o :: rest) a w := by
  refine wpList_plain hgd fun _ hK => wpo_appG _ s x 28 ho 5 (.int .u8 0) 1 Tryd.underlying28 info8 rfl 0 _ l.length (l.map B8) hs hW.2.1.2 X m cx (r.map B8) hx (by rw [List.length_map]; exact hr.1) ?_ ?_ (by unfold maxLen; omega) (by omega) (Nat.zero_le _) ?_
  · intro hm
    obtain ⟨b, off, rfl, _, hc⟩ := hr.2 hm
    refine ⟨_, rfl, fun j v hj => ?_⟩
    have hjl : j < r.length := by have := (List.getElem?_eq_some_iff.1 hj).1; simpa using this
    have hp : (⟨b, off, none⟩ : Addr).add j = ⟨b, off + j, none⟩ := by unfold Addr.add; split <;> simp_all
    rw [hp, hc j hjl]
    simp [List.getElem?_eq_getElem hjl] at hj
    rw [← hj]; rfl
  · intro v hv; simp at hv; obtain ⟨u, _, rfl⟩ := hv; rfl
  · intro A' c' w' hown' _ hbk hgr
    have hf := frm_grown hgr
    rw [own_blkOf, own_blkOf] at hbk
    have hn : ∀ g, blkOf A' = some g → blkOf A = some g ∨ w.heap.size ≤ g := fun g hg => by
      rcases hbk with e | e
      · exact .inl (e ▸ hg)
      · rw [e] at hg; injection hg with hg; exact .inr (by omega)
    refine hK _ _ (h A' c' w' (hf.blk hW.1 hW.2.2) ⟨by simp [hr.1], by rw [List.map_append]; exact hown'⟩ (fun e => ?_) hf hn)
    rcases hn p e with h1 | h1
    · exact hW.2.2 h1
    · have := hW.1.lt; omega

set_option maxRecDepth 100000 in
set_option maxHeartbeats 400000 in
theorem wnew_calls (w : World) : Calls Tryd.prog 13 #[] w fun e w' => ∃ p, e = .returned (.pointer (some ⟨p, 0, none⟩)) ∧ w.heap.size = p ∧ Wr w' p none 0 [] ∧ Below w.heap.size w w' := by
  go_enter Tryd.func13, Tryd.ntmps13
  go_wp2
  go_ret
  exact ⟨_, rfl, rfl, ⟨Blk.new _ _ _, Own.nil _ _, by simp [blkOf]⟩, (Below.refl _ _).alloc (Nat.le_refl _) _⟩

set_option maxRecDepth 100000 in
set_option maxHeartbeats 400000 in
theorem put_calls (w : World) (p : Nat) (A : Option Addr) (c : Nat) (l : List UInt8) (hW : Wr w p A c l) (X : Option Addr) (m k : Nat) (L : List (List UInt8)) (hX : RdLF w (WS p A) X m L) (hm : m ≤ 1000) (hs : l.length + L.flatten.length ≤ 1000000000000) :
    Calls Tryd.prog 30 #[.pointer (some ⟨p, 0, none⟩), .slice X m k] w fun e w' => e = .returned (.tuple #[]) ∧ Wto w p A (l ++ L.flatten) w' := by
  have HL := Lib.hid hX.len
  have HX := Lib.hid hX
  have HW := Lib.hid hW
  have HS := Lib.hid hs
  clear hX hW hs
  go_enter Tryd.func30, Tryd.ntmps30
  go_wp2
  go_loopw [8] (fun i wr => ∃ (t : Nat) (A' : Option Addr) (c' : Nat), t ≤ m ∧ i = .int .i64 t ∧ Wr wr p A' c' (l ++ (L.take t).flatten) ∧ Frm (WS p A) w wr ∧ (∀ g, blkOf A' = some g → blkOf A = some g ∨ w.heap.size ≤ g)) (fun i _ => m - (intOf i).toNat)
  case atStart => exact ⟨0, A, c, Nat.zero_le _, rfl, by simpa using HW.out, Frm.refl _ _, fun g hg => .inl hg⟩
  case round =>
    obtain ⟨t, A', c', ht, rfl, hWr, hf, hn⟩ := hrel
    by_cases hlt : t < m
    · obtain ⟨b, off, Y, n, cy, hl, rfl, hcell, hrd⟩ := (HX.out.frm hf).at_ (k := t) hlt
      obtain ⟨l', hl'⟩ : ∃ l', l' = l ++ (L.take t).flatten := ⟨_, rfl⟩
      rw [← hl'] at hWr
      have hsz : l'.length + n ≤ 1000000000000 := by
        have h1 := flatL L (t + 1)
        rw [flatT L t hl, List.length_append, hrd.len] at h1
        have := HS.out
        rw [hl', List.length_append]
        omega
      have hc0 : wr.cell? ⟨p, 0, none⟩ = some (.slice A' l'.length c') := hWr.1.cell 0
      have HWr := Lib.hid hWr
      have HRd := Lib.hid hrd.rd
      have HLe := Lib.hid hl'
      clear hWr hrd hl'
      go_wp2_with (at_builtin; refine app8_wr _ rfl _ _ rfl p A' c' l' Y n cy _ rfl rfl HWr.out HRd.out (by omega) ?_; intro A2 c2 w2 hb2 ho2 hn2 hf2 hg2; have hc2 : w2.cell? ⟨p, 0, none⟩ = some (.slice A' l'.length c') := hb2.cell 0; have hz2 : w2.frozen? ⟨p, 0, none⟩ = false := hb2.free 0)
      go_roundw
      case rel =>
        have hle := HLe.out
        have e1 : l ++ (L.take (t + 1)).flatten = l' ++ L[t] := by rw [flatT L t hl, hle, List.append_assoc]
        have hlen : (l' ++ L[t]).length = l'.length + n := by rw [List.length_append, HRd.out.len]
        have hset := hb2.set 0 (.slice A2 (l'.length + n) c2)
        rw [← hlen] at hset ho2
        refine ⟨t + 1, A2, c2, by omega, by go_num, ?_, ?_, ?_⟩
        · rw [e1, ← hlen]
          refine ⟨hset, ho2.frm (S := fun i => i = p) (Frm.only ((Only.refl p w2).set 0 _) rfl) (fun g hg e => hn2 (e ▸ hg)), hn2⟩
        · refine (hf.step hf2 (fun i hi => ?_)).setCell p 0 _ (.inl rfl)
          rcases hn i hi with h1 | h1
          · exact .inl (.inr h1)
          · exact .inr h1
        · intro g hg
          rcases hg2 g hg with h1 | h1
          · exact hn g h1
          · exact .inr (Nat.le_trans hf.size h1)
      case measure => simp [intOf]; omega
    · have e : t = m := by omega
      subst e
      rw [List.take_of_length_le (by rw [HL.out]; omega)] at hWr
      have HWr := Lib.hid hWr
      clear hWr
      go_wp2
      refine bodyPost_end (v := .tuple #[]) (by simp [results, Tryd.results30]) rfl ⟨rfl, A', c', HWr.out, hf, hn⟩
set_option maxRecDepth 100000 in
theorem Wto.down {w W w' : World} {p : Nat} {A : Option Addr} {l : List UInt8} (hb : Below w.heap.size w W) (h : Wto W p A l w') : Wto w p A l w' := by
  obtain ⟨A', c', hw, hf, hn⟩ := h
  exact Wto.mk (Frm.of_below hb) (fun g hg => .inl hg) hw hf hn
set_option maxRecDepth 100000 in
theorem RdF.turn {w w' : World} {S T : Nat → Prop} {A : Option Addr} {n : Nat} {l : List UInt8} (h : RdF w S A n l) (hf : Frm S w w') (hT : ∀ i, T i → S i ∨ w.heap.size ≤ i) : RdF w' T A n l :=
  ⟨h.1, fun hn => by
    obtain ⟨b, off, e, hS, hb, hc⟩ := h.2 hn
    exact ⟨b, off, e, fun ht => by rcases hT b ht with h1 | h1; exact hS h1; omega, Nat.lt_of_lt_of_le hb hf.size, fun j hj => (hf.cell (p := ⟨b, off + j, none⟩) hb hS).trans (hc j hj)⟩⟩
set_option maxRecDepth 100000 in
theorem ws_turn {p B : Nat} {A A' : Option Addr} (hn : ∀ g, blkOf A' = some g → blkOf A = some g ∨ B ≤ g) : ∀ i, WS p A' i → WS p A i ∨ B ≤ i := fun i hi => by
  rcases hi with rfl | hi
  · exact .inl (.inl rfl)
  · rcases hn i hi with h1 | h1
    · exact .inl (.inr h1)
    · exact .inr h1
set_option maxRecDepth 100000 in
theorem below_al {w W : World} (h : Below w.heap.size w W) (o : Obj) : Below w.heap.size w (W.alloc o) := h.alloc h.size o

set_option maxRecDepth 100000 in
set_option maxHeartbeats 400000 in
theorem wnum_calls (w : World) (p : Nat) (A : Option Addr) (c : Nat) (l : List UInt8) (hW : Wr w p A c l) (n : Nat) (k : Int) (m : Nat) (hm : cw k = m) (hs : l.length ≤ 100000000000) :
    Calls Tryd.prog 14 #[.pointer (some ⟨p, 0, none⟩), .int .u64 (n : Int), .int .i64 k] w fun e w' => e = .returned (.tuple #[]) ∧ Wto w p A (l ++ little n m) w' := by
  have hm8 : m ≤ 8 := by have := cw_bd k; omega
  have HM := Lib.hid hm
  have HW := Lib.hid hW
  clear hm hW
  go_enter Tryd.func14, Tryd.ntmps14
  go_wp2_with (first
    | (go_at_call 31; refine (little_calls n k m HM.out _).mono ?_; rintro e' w1 ⟨A1, n1, c1, rfl, ho1, hb1⟩
       have hX := rdlf1 w1 (WS p A) w1.heap.size rfl (fun i hi => Nat.lt_of_lt_of_le (HW.out.lt i hi) hb1.size) A1 n1 c1 _ (RdF.own ho1 HW.out.lt) 28
       have hW1 := HW.out.below (below_al hb1 (.cells #[.slice A1 n1 c1] 28))
       have HP := Lib.hid (put_calls _ p A c l hW1 _ 1 1 _ hX (by omega) (by simp; omega))
       have HB := Lib.hid (below_al hb1 (.cells #[.slice A1 n1 c1] 28))
       clear hX hW1 ho1)
    | (go_at_call 30; refine HP.out.mono ?_; rintro e' w2 ⟨rfl, hto⟩))
  refine bodyPost_end (v := .tuple #[]) (by simp [results, Tryd.results14]) rfl ⟨rfl, ?_⟩
  have := hto.down HB.out
  simpa using this

set_option maxRecDepth 100000 in
theorem cw_more (n : Nat) : cw ((more n : Nat) : Int) = more n := by rw [cw_nat, Nat.min_eq_left (more_le n)]
set_option maxRecDepth 100000 in
set_option maxHeartbeats 400000 in
theorem wvar_calls (w : World) (p : Nat) (A : Option Addr) (c : Nat) (l : List UInt8) (hW : Wr w p A c l) (n : Nat) (hs : l.length ≤ 100000000000) :
    Calls Tryd.prog 15 #[.pointer (some ⟨p, 0, none⟩), .int .u64 (n : Int)] w fun e w' => e = .returned (.tuple #[]) ∧ Wto w p A (l ++ cnt n) w' := by
  obtain ⟨m, hm⟩ : ∃ m, m = more n := ⟨_, rfl⟩
  obtain ⟨hB, hh⟩ : ∃ hB, hB = headB n := ⟨_, rfl⟩
  have hm8 : m ≤ 8 := hm ▸ more_le n
  have CS : Hid (∀ W, Calls Tryd.prog 32 #[.int .u64 (n : Int)] W (fun e w' => e = .returned (.tuple #[.int .u8 (hB.toNat : Int), .int .i64 (m : Int)]) ∧ W = w')) := Lib.hid fun W => by rw [hm, hh]; exact shape_calls n W
  have CL : Hid (∀ W, Calls Tryd.prog 31 #[.int .u64 (n : Int), .int .i64 (m : Int)] W (Mk W (little n m))) := Lib.hid fun W => little_calls n m m (by rw [hm]; exact cw_more n) W
  have HC : Hid (cnt n = [hB] ++ little n m) := Lib.hid (by rw [hm, hh]; rfl)
  have HW := Lib.hid hW
  clear hW hm hh
  go_enter Tryd.func15, Tryd.ntmps15
  go_wp2_with (first
    | (go_at_call 32; refine (CS.out _).mono ?_; rintro e' w' ⟨rfl, rfl⟩)
    | (go_at_call 31; refine (CL.out _).mono ?_; rintro e' w1 ⟨A1, n1, c1, rfl, ho1, hb1⟩
       have hb0 : Below w.heap.size w w1 := ((Below.refl _ w).alloc (Nat.le_refl _) _).trans (hb1.mono (by simp))
       have hlt : ∀ i, WS p A i → i < w1.heap.size := fun i hi => Nat.lt_of_lt_of_le (HW.out.lt i hi) hb0.size
       have hblk : Blk w1 w.heap.size [.int .u8 (hB.toNat : Int)] 5 := Blk.below (Blk.new w #[.int .u8 (hB.toNat : Int)] 5) hb1 (by simp)
       have hr1 : RdF w1 (WS p A) (some ⟨w.heap.size, 0, none⟩) 1 [hB] := ⟨rfl, fun _ => ⟨w.heap.size, 0, rfl, fun hs => by have := HW.out.lt _ hs; omega, hblk.lt, fun j hj => by
         have : j = 0 := by simp at hj; omega
         subst this
         exact hblk.cell 0⟩⟩
       have hX := rdlf2 w1 (WS p A) w1.heap.size rfl hlt (some ⟨w.heap.size, 0, none⟩) A1 1 1 n1 c1 [hB] _ hr1 (RdF.own ho1 (fun i hi => by have := HW.out.lt i hi; simp; omega)) 28
       have hW1 := HW.out.below (below_al hb0 (.cells #[.slice (some ⟨w.heap.size, 0, none⟩) 1 1, .slice A1 n1 c1] 28))
       have HP := Lib.hid (put_calls _ p A c l hW1 _ 2 2 _ hX (by omega) (by simp; omega))
       have HB := Lib.hid (below_al hb0 (.cells #[.slice (some ⟨w.heap.size, 0, none⟩) 1 1, .slice A1 n1 c1] 28))
       clear hX hW1 ho1 hr1 hblk hlt hb0)
    | (go_at_call 30; refine HP.out.mono ?_; rintro e' w2 ⟨rfl, hto⟩))
  refine bodyPost_end (v := .tuple #[]) (by simp [results, Tryd.results15]) rfl ⟨rfl, ?_⟩
  have := hto.down HB.out
  rw [HC.out]
  simpa using this

set_option maxRecDepth 100000 in
set_option maxHeartbeats 400000 in
theorem wtext_calls (w : World) (p : Nat) (A : Option Addr) (c : Nat) (l : List UInt8) (hW : Wr w p A c l) (X : Option Addr) (n k : Nat) (r : List UInt8) (hX : RdF w (WS p A) X n r) (hn : n ≤ 1000000000) (hs : l.length ≤ 10000000000) :
    Calls Tryd.prog 16 #[.pointer (some ⟨p, 0, none⟩), .slice X n k] w fun e w' => e = .returned (.tuple #[]) ∧ Wto w p A (l ++ (cnt n ++ r)) w' := by
  have e4 : IntKind.u64.wrap (n : Int) = (n : Int) := by rw [IntKind.wrap_u64]; omega
  have HW := Lib.hid hW
  have HX := Lib.hid hX
  clear hW hX
  go_enter Tryd.func16, Tryd.ntmps16
  go_wp2_with (first
    | (go_at_call 15; refine (wvar_calls _ p A c l HW.out n (by omega)).mono ?_; rintro e' w1 ⟨rfl, A1, c1, hw1, hf1, hn1⟩
       have hr1 := HX.out.turn hf1 (ws_turn hn1)
       have hX1 := rdlf1 w1 (WS p A1) w1.heap.size rfl hw1.lt X n k r hr1 28
       have hW1 := hw1.below (below_al (Below.refl _ w1) (.cells #[.slice X n k] 28))
       have HP := Lib.hid (put_calls _ p A1 c1 _ hW1 _ 1 1 _ hX1 (by omega) (by have h1 := hr1.len; have h2 := more_le n; simp; omega))
       have HF := Lib.hid (And.intro hf1 hn1)
       have HB := Lib.hid (below_al (Below.refl _ w1) (.cells #[.slice X n k] 28))
       clear hX1 hW1 hr1 hw1 hf1 hn1)
    | (go_at_call 30; refine HP.out.mono ?_; rintro e' w2 ⟨rfl, hto⟩))
  refine bodyPost_end (v := .tuple #[]) (by simp [results, Tryd.results16]) rfl ⟨rfl, ?_⟩
  obtain ⟨A2, c2, hw2, hf2, hn2⟩ := hto.down HB.out
  have := Wto.mk HF.out.1 HF.out.2 hw2 hf2 hn2
  simpa using this

set_option maxRecDepth 100000 in
theorem cwlen_calls (w : World) (p : Nat) (A : Option Addr) (c : Nat) (l : List UInt8) (hW : Wr w p A c l) :
    Calls Tryd.prog 17 #[.pointer (some ⟨p, 0, none⟩)] w fun e w' => e = .returned (.int .i64 (l.length : Int)) ∧ w = w' := by
  have hc0 : w.cell? ⟨p, 0, none⟩ = some (.slice A l.length c) := hW.1.cell 0
  clear hW
  go_enter Tryd.func17, Tryd.ntmps17
  go_wp2
  go_ret
  exact ⟨rfl, rfl⟩
set_option maxRecDepth 100000 in
set_option maxHeartbeats 400000 in
theorem wbytes_calls (w : World) (p : Nat) (A : Option Addr) (c : Nat) (l : List UInt8) (hW : Wr w p A c l) (hs : l.length ≤ 100000000000) :
    Calls Tryd.prog 18 #[.pointer (some ⟨p, 0, none⟩)] w (Mk w l) := by
  have hc0 : w.cell? ⟨p, 0, none⟩ = some (.slice A l.length c) := hW.1.cell 0
  have HC := Lib.hid (clone_calls A l.length c l w (by omega) hW.2.1.rd)
  clear hW
  go_enter Tryd.func18, Tryd.ntmps18
  go_wp2_with (go_at_call 33; refine HC.out.mono ?_; rintro e' w1 ⟨A1, n1, c1, rfl, ho1, hb1⟩)
  go_ret
  exact ⟨A1, n1, c1, rfl, ho1, hb1⟩
set_option maxRecDepth 100000 in
theorem below_frm {w a b : World} {S : Nat → Prop} (h : Below w.heap.size w a) (hf : Frm S a b) (hS : ∀ i, S i → w.heap.size ≤ i) : Below w.heap.size w b := h.trans (hf.below h.size hS)
set_option maxRecDepth 100000 in
theorem below_more {w a b : World} (h : Below w.heap.size w a) (hb : Below a.heap.size a b) : Below w.heap.size w b := h.trans (hb.mono h.size)
set_option maxRecDepth 100000 in
theorem ws_new {p B : Nat} (h : B ≤ p) : ∀ i, WS p none i → B ≤ i := fun i hi => by
  rcases hi with rfl | hi
  · exact h
  · simp [blkOf] at hi
set_option maxRecDepth 100000 in
theorem ws_on {p B : Nat} {A A' : Option Addr} {n : Nat} (hA : ∀ i, WS p A i → B ≤ i) (hn : ∀ g, blkOf A' = some g → blkOf A = some g ∨ n ≤ g) (hB : B ≤ n) : ∀ i, WS p A' i → B ≤ i := fun i hi => by
  rcases ws_turn hn i hi with h | h
  · exact hA i h
  · omega
end Go.Proofs.YthkkllcpogagiaaDoor

/- Contracts of a reader's methods: Of, Err, Left, End, Take, Var. -/
namespace Go.Proofs.YthkkllcpogagiaaDoor
open Go.RowKit
set_option linter.unusedVariables false

set_option maxRecDepth 100000 in
set_option maxHeartbeats 400000 in
theorem rof_calls (A : Option Addr) (n c : Nat) (l : List UInt8) (w : World) (hn : n ≤ 140737488355328) (hr : Rd w A n l) :
    Calls Tryd.prog 22 #[.slice A n c] w fun e w' => ∃ q, e = .returned (.pointer (some ⟨q, 0, none⟩)) ∧ w.heap.size ≤ q ∧ Rr w' q l 0 ∧ Below w.heap.size w w' := by
  have HL := Lib.hid hr.len
  have HC := Lib.hid (clone_calls A n c l w hn hr)
  clear hr
  go_enter Tryd.func22, Tryd.ntmps22
  go_wp2_with (go_at_call 33; refine HC.out.mono ?_; rintro e' w1 ⟨A1, n1, c1, rfl, ho1, hb1⟩)
  go_ret
  have hl := ho1.len
  have hcp := own_cap ho1
  subst hl
  refine ⟨_, rfl, hb1.size, ⟨A1, c1, Blk.new _ _ _, ?_, hcp.1, hcp.2, by rw [HL.out]; exact hn⟩, below_al hb1 _⟩
  have hlt := fun g (hg : blkOf A1 = some g) => ho1.lt hg
  refine (RdF.turn (S := fun _ => False) (T := fun i => i = w1.heap.size) (RdF.own ho1 (fun i hi => hi.elim)) (Frm.of_below ((Below.refl _ w1).alloc (Nat.le_refl _) _)) (fun i hi => .inr (Nat.le_of_eq hi.symm)))
set_option maxRecDepth 100000 in
theorem err_calls (w : World) (q : Nat) (l : List UInt8) (e : Nat) {S : Nat → Prop} (hR : Rr w q l e S) :
    Calls Tryd.prog 24 #[.pointer (some ⟨q, 0, none⟩)] w fun en w' => en = .returned (.int .i64 (e : Int)) ∧ w = w' := by
  obtain ⟨A, c, hb, _⟩ := hR
  have hc1 : w.cell? ⟨q, 1, none⟩ = some (.int .i64 (e : Int)) := hb.cell 1
  clear hb
  go_enter Tryd.func24, Tryd.ntmps24
  go_wp2
  go_ret
  exact ⟨rfl, rfl⟩
set_option maxRecDepth 100000 in
theorem Rr.mk {w : World} {q n c e : Nat} {A : Option Addr} {l : List UInt8} {S : Nat → Prop} (hb : Blk w q [.slice A n c, .int .i64 (e : Int)] 77) (hd : RdF w S A n l) (h1 : n ≤ c) (h2 : c ≤ maxLen) (h3 : n ≤ 140737488355328) : Rr w q l e S := by
  have := hd.len
  subst this
  exact ⟨A, c, hb, hd, h1, h2, h3⟩
set_option maxRecDepth 100000 in
theorem Rr.setE {w : World} {q e : Nat} {l : List UInt8} {S : Nat → Prop} (h : Rr w q l e S) (e' : Nat) (hS : S q) : Rr (w.setCell ⟨q, 1, none⟩ (.int .i64 (e' : Int))) q l e' S := by
  obtain ⟨A, c, h1, h2, h3⟩ := h
  exact ⟨A, c, h1.set 1 _, h2.frm ((Frm.refl _ w).setCell q 1 _ hS), h3⟩
/-- What End answers. -/
def ndE (l : List UInt8) (e : Nat) : Nat := if e = 0 ∧ 0 < l.length then 3 else e
set_option maxRecDepth 100000 in
set_option maxHeartbeats 400000 in
theorem end_calls (w : World) (q : Nat) (l : List UInt8) (e : Nat) {S : Nat → Prop} (hR : Rr w q l e S) (hS : S q := by rfl) :
    Calls Tryd.prog 27 #[.pointer (some ⟨q, 0, none⟩)] w fun en w' => en = .returned (.int .i64 (ndE l e : Int)) ∧ Rr w' q l (ndE l e) S ∧ Frm (fun i => i = q) w w' := by
  have HR := Lib.hid hR
  obtain ⟨A, c, hb, _⟩ := hR
  have hc0 : w.cell? ⟨q, 0, none⟩ = some (.slice A l.length c) := hb.cell 0
  have hc1 : w.cell? ⟨q, 1, none⟩ = some (.int .i64 (e : Int)) := hb.cell 1
  have hf1 : w.frozen? ⟨q, 1, none⟩ = false := hb.free 1
  clear hb
  unfold ndE
  by_cases he : e = 0
  · subst he
    by_cases hl : 0 < l.length
    · rw [if_pos ⟨rfl, hl⟩]
      go_enter Tryd.func27, Tryd.ntmps27
      go_wp2
      go_ret
      exact ⟨rfl, HR.out.setE 3 hS, (Frm.refl _ w).setCell q 1 _ rfl⟩
    · rw [if_neg (fun h => hl h.2)]
      have h0 : l.length = 0 := by omega
      go_enter Tryd.func27, Tryd.ntmps27
      go_wp2
      go_ret
      exact ⟨rfl, HR.out, Frm.refl _ _⟩
  · rw [if_neg (fun h => he h.1)]
    go_enter Tryd.func27, Tryd.ntmps27
    go_wp2
    go_ret
    exact ⟨rfl, HR.out, Frm.refl _ _⟩
set_option maxRecDepth 100000 in
set_option maxHeartbeats 400000 in
theorem take_nat (w : World) (q : Nat) (l : List UInt8) (e : Nat) {S : Nat → Prop} (hR : Rr w q l e S) (k : Int) (n : Nat) (hk : k.toNat = n) (hkn : k = (n : Int)) (hS : S q) :
    Calls Tryd.prog 37 #[.pointer (some ⟨q, 0, none⟩), .int .i64 k] w fun en w' => ∃ A m c, en = .returned (.slice A m c) ∧ Own w' w.heap.size A m c (tkV l e n) ∧ Rr w' q (tkL l e n) (tkE l e n) S ∧ Frm (fun i => i = q) w w' := by
  have HR := Lib.hid hR
  obtain ⟨A, c, hb, hrd, hlc, hcm, h47⟩ := hR
  have hc0 : w.cell? ⟨q, 0, none⟩ = some (.slice A l.length c) := hb.cell 0
  have hc1 : w.cell? ⟨q, 1, none⟩ = some (.int .i64 (e : Int)) := hb.cell 1
  have hf1 : w.frozen? ⟨q, 1, none⟩ = false := hb.free 1
  have HB := Lib.hid (And.intro hb hrd)
  clear hb hrd
  subst hkn
  clear hk
  unfold tkV tkL tkE
  by_cases he : e = 0
  · subst he
    by_cases hn : n ≤ l.length
    · rw [if_pos ⟨rfl, hn⟩, if_pos ⟨rfl, hn⟩, if_pos rfl, if_pos hn]
      have hs2 := fun W => run_subL (P := Tryd.prog) 28 5 Tryd.underlying28 size8 A l.length c n (n : Int) rfl hn W
      have HC := Lib.hid (clone_calls A n c (l.take n) w (by omega) (HB.out.2.rd.take hn))
      go_enter Tryd.func37, Tryd.ntmps37
      go_wp2_with (go_at_call 33; refine HC.out.mono ?_; rintro e' w1 ⟨A1, n1, c1, rfl, ho1, hb1⟩
                   have hb2 := Blk.below HB.out.1 hb1 HB.out.1.lt
                   have hd0 : w1.cell? ⟨q, 0, none⟩ = some (.slice A l.length c) := hb2.cell 0
                   have hd1 : w1.frozen? ⟨q, 0, none⟩ = false := hb2.free 0)
      go_ret
      have hf : Frm (fun i => i = q) w (w1.setCell ⟨q, 0, none⟩ (.slice (sub A c n) (l.length - n) (c - n))) := (Frm.of_below hb1).setCell q 0 _ rfl
      refine ⟨A1, n1, c1, rfl, ho1.frm (S := fun i => i = q) ((Frm.refl _ w1).setCell q 0 _ rfl) (fun g hg e => by have := (ho1.lt hg).2; have := HB.out.1.lt; omega), ?_, hf⟩
      have hfS : Frm S w (w1.setCell ⟨q, 0, none⟩ (.slice (sub A c n) (l.length - n) (c - n))) := (Frm.of_below hb1).setCell q 0 _ hS
      have hd := (HB.out.2.frm hfS).drop n hlc
      have hset := hb2.set 0 (.slice (sub A c n) (l.length - n) (c - n))
      exact Rr.mk hset hd (by omega) (by omega) (by omega)
    · rw [if_neg (fun h => hn h.2), if_neg (fun h => hn h.2), if_pos rfl, if_neg hn]
      go_enter Tryd.func37, Tryd.ntmps37
      go_wp2
      go_ret
      exact ⟨_, _, _, rfl, Own.nil _ _, HR.out.setE 2 hS, (Frm.refl _ w).setCell q 1 _ rfl⟩
  · rw [if_neg (fun h => he h.1), if_neg (fun h => he h.1), if_neg he]
    go_enter Tryd.func37, Tryd.ntmps37
    go_wp2
    go_ret
    exact ⟨_, _, _, rfl, Own.nil _ _, HR.out, Frm.refl _ _⟩
set_option maxRecDepth 100000 in
set_option maxHeartbeats 400000 in
theorem take_neg (w : World) (q : Nat) (l : List UInt8) (e : Nat) {S : Nat → Prop} (hR : Rr w q l e S) (k : Int) (n : Nat) (hk : k.toNat = n) (hkn : k < 0) (hS : S q) :
    Calls Tryd.prog 37 #[.pointer (some ⟨q, 0, none⟩), .int .i64 k] w fun en w' => ∃ A m c, en = .returned (.slice A m c) ∧ Own w' w.heap.size A m c (tkV l e n) ∧ Rr w' q (tkL l e n) (tkE l e n) S ∧ Frm (fun i => i = q) w w' := by
  have HR := Lib.hid hR
  obtain ⟨A, c, hb, hrd, hlc, hcm, h47⟩ := hR
  have hc0 : w.cell? ⟨q, 0, none⟩ = some (.slice A l.length c) := hb.cell 0
  have hc1 : w.cell? ⟨q, 1, none⟩ = some (.int .i64 (e : Int)) := hb.cell 1
  have hf1 : w.frozen? ⟨q, 1, none⟩ = false := hb.free 1
  have HB := Lib.hid (And.intro hb hrd)
  clear hb hrd
  have hn0 : n = 0 := by omega
  subst hn0
  clear hk
  unfold tkV tkL tkE
  by_cases he : e = 0
  · subst he
    by_cases hn : 0 ≤ l.length
    · rw [if_pos ⟨rfl, hn⟩, if_pos ⟨rfl, hn⟩, if_pos rfl, if_pos hn]
      have hs2 := fun W => run_subL (P := Tryd.prog) 28 5 Tryd.underlying28 size8 A l.length c 0 0 rfl hn W
      have HC := Lib.hid (clone_calls A 0 c (l.take 0) w (by omega) (HB.out.2.rd.take hn))
      go_enter Tryd.func37, Tryd.ntmps37
      go_wp2_with (go_at_call 33; refine HC.out.mono ?_; rintro e' w1 ⟨A1, n1, c1, rfl, ho1, hb1⟩
                   have hb2 := Blk.below HB.out.1 hb1 HB.out.1.lt
                   have hd0 : w1.cell? ⟨q, 0, none⟩ = some (.slice A l.length c) := hb2.cell 0
                   have hd1 : w1.frozen? ⟨q, 0, none⟩ = false := hb2.free 0)
      go_ret
      have hf : Frm (fun i => i = q) w (w1.setCell ⟨q, 0, none⟩ (.slice (sub A c 0) (l.length - 0) (c - 0))) := (Frm.of_below hb1).setCell q 0 _ rfl
      refine ⟨A1, n1, c1, rfl, ho1.frm (S := fun i => i = q) ((Frm.refl _ w1).setCell q 0 _ rfl) (fun g hg e => by have := (ho1.lt hg).2; have := HB.out.1.lt; omega), ?_, hf⟩
      have hfS : Frm S w (w1.setCell ⟨q, 0, none⟩ (.slice (sub A c 0) (l.length - 0) (c - 0))) := (Frm.of_below hb1).setCell q 0 _ hS
      have hd := (HB.out.2.frm hfS).drop 0 hlc
      have hset := hb2.set 0 (.slice (sub A c 0) (l.length - 0) (c - 0))
      exact Rr.mk hset hd (by omega) (by omega) (by omega)
    · rw [if_neg (fun h => hn h.2), if_neg (fun h => hn h.2), if_pos rfl, if_neg hn]
      exact absurd (Nat.zero_le _) hn
  · rw [if_neg (fun h => he h.1), if_neg (fun h => he h.1), if_neg he]
    go_enter Tryd.func37, Tryd.ntmps37
    go_wp2
    go_ret
    exact ⟨_, _, _, rfl, Own.nil _ _, HR.out, Frm.refl _ _⟩
set_option maxRecDepth 100000 in
theorem take_calls (w : World) (q : Nat) (l : List UInt8) (e : Nat) {S : Nat → Prop} (hR : Rr w q l e S) (k : Int) (n : Nat) (hk : k.toNat = n) (hS : S q := by rfl) :
    Calls Tryd.prog 37 #[.pointer (some ⟨q, 0, none⟩), .int .i64 k] w fun en w' => ∃ A m c, en = .returned (.slice A m c) ∧ Own w' w.heap.size A m c (tkV l e n) ∧ Rr w' q (tkL l e n) (tkE l e n) S ∧ Frm (fun i => i = q) w w' := by
  by_cases h : k < 0
  · exact take_neg w q l e hR k n hk h hS
  · exact take_nat w q l e hR k n hk (by omega) hS
set_option maxRecDepth 100000 in
/-- A reader whose bytes lie below a bound, and back. -/
theorem Rr.wide {w W : World} {q e : Nat} {l : List UInt8} {S : Nat → Prop} (h : Rr w q l e S) (hb : Below w.heap.size w W) : Rr W q l e (fun i => S i ∨ w.heap.size ≤ i) := by
  obtain ⟨A, c, h1, h2, h3⟩ := h
  exact ⟨A, c, h1.below hb h1.lt, h2.turn (Frm.of_below hb) (fun i hi => hi), h3⟩
set_option maxRecDepth 100000 in
theorem Rr.narrow {w w' : World} {q e : Nat} {l : List UInt8} {S T : Nat → Prop} (h : Rr w q l e S) (hT : ∀ i, T i → S i) (hq : w'.heap[q]? = w.heap[q]?) (hf : Frm S w w') : Rr w' q l e T := by
  obtain ⟨A, c, h1, h2, h3⟩ := h
  refine ⟨A, c, hq.trans h1, ?_, h3⟩
  refine ⟨h2.1, fun hn => ?_⟩
  obtain ⟨b, off, e, hb, hlt, hc⟩ := (h2.frm hf).2 hn
  exact ⟨b, off, e, fun h => hb (hT b h), hlt, hc⟩
end Go.Proofs.YthkkllcpogagiaaDoor
