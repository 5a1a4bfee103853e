/- Merged texts: TxnU Stp. -/
import Derived.Test.YthkkllcpogagiaaDoorMas
import Derived.Test.YthkkllcpogagiaaDoorMan
import Derived.Test.YthkkllcpogagiaaDoorMam
import Derived.Test.YthkkllcpogagiaaDoorMad
/- The contract of package txn's own Bytes. -/
namespace Go.Proofs.YthkkllcpogagiaaDoor
open Go.RowKit
set_option linter.unusedVariables false
set_option linter.unusedSimpArgs false

/-- The writer at p holds l, in none of the blocks T. -/
structure WT (T : Nat → Prop) (p : Nat) (l : List UInt8) (W : World) : Prop where
  ex : ∃ A c, Wr W p A c l ∧ ∀ i, WS p A i → ¬ T i
  old : ∀ i, T i → i < W.heap.size
/-- What a writing call ends in. -/
def Wrote (T : Nat → Prop) (p : Nat) (l : List UInt8) (W : World) (e : Ending) (w' : World) : Prop := e = .returned (.tuple #[]) ∧ WT T p l w' ∧ Frm (fun i => ¬ T i) W w'
set_option maxRecDepth 100000 in
theorem WT.to {T : Nat → Prop} {p : Nat} {l l' : List UInt8} {A : Option Addr} {c : Nat} {W w' : World} (hW : Wr W p A c l) (hn : ∀ i, WS p A i → ¬ T i) (ho : ∀ i, T i → i < W.heap.size) (h : Wto W p A l' w') : WT T p l' w' ∧ Frm (fun i => ¬ T i) W w' := by
  obtain ⟨A', c', h1, h2, h3⟩ := h
  refine ⟨⟨⟨A', c', h1, fun i hi hT => ?_⟩, fun i hi => Nat.lt_of_lt_of_le (ho i hi) h2.size⟩, h2.mono hn⟩
  rcases hi with rfl | hi
  · exact hn _ (.inl rfl) hT
  · rcases h3 i hi with h4 | h4
    · exact hn i (.inr h4) hT
    · have := ho i hT
      omega
set_option maxRecDepth 100000 in
theorem WT.num {T : Nat → Prop} {p : Nat} {l : List UInt8} {W : World} (h : WT T p l W) (n : Nat) (k : Int) (m : Nat) (hm : cw k = m) (hs : l.length ≤ 100000000) :
    Calls Tryd.prog 14 #[.pointer (some ⟨p, 0, none⟩), .int .u64 (n : Int), .int .i64 k] W (Wrote T p (l ++ little n m) W) := by
  obtain ⟨⟨A, c, hW, hn⟩, ho⟩ := h
  refine (wnum_calls W p A c l hW n k m hm (by omega)).mono ?_
  rintro e w' ⟨rfl, hw⟩
  exact ⟨rfl, WT.to hW hn ho hw⟩
set_option maxRecDepth 100000 in
theorem WT.var {T : Nat → Prop} {p : Nat} {l : List UInt8} {W : World} (h : WT T p l W) (n : Nat) (hs : l.length ≤ 100000000) :
    Calls Tryd.prog 15 #[.pointer (some ⟨p, 0, none⟩), .int .u64 (n : Int)] W (Wrote T p (l ++ cnt n) W) := by
  obtain ⟨⟨A, c, hW, hn⟩, ho⟩ := h
  refine (wvar_calls W p A c l hW n (by omega)).mono ?_
  rintro e w' ⟨rfl, hw⟩
  exact ⟨rfl, WT.to hW hn ho hw⟩
set_option maxRecDepth 100000 in
theorem WT.text {T : Nat → Prop} {p : Nat} {l : List UInt8} {W : World} (h : WT T p l W) (X : Option Addr) (n k : Nat) (r : List UInt8) (hX : RdF W (fun i => ¬ T i) X n r) (hn1 : n ≤ 1000000000) (hs : l.length ≤ 100000000) :
    Calls Tryd.prog 16 #[.pointer (some ⟨p, 0, none⟩), .slice X n k] W (Wrote T p (l ++ (cnt n ++ r)) W) := by
  obtain ⟨⟨A, c, hW, hn⟩, ho⟩ := h
  have hX2 : RdF W (WS p A) X n r := ⟨hX.1, fun h0 => by
    obtain ⟨b, off, e, h1, h2⟩ := hX.2 h0
    exact ⟨b, off, e, fun h3 => h1 (hn b h3), h2⟩⟩
  refine (wtext_calls W p A c l hW X n k r hX2 hn1 (by omega)).mono ?_
  rintro e w' ⟨rfl, hw⟩
  exact ⟨rfl, WT.to hW hn ho hw⟩
set_option maxRecDepth 100000 in
theorem WT.len {T : Nat → Prop} {p : Nat} {l : List UInt8} {W : World} (h : WT T p l W) :
    Calls Tryd.prog 17 #[.pointer (some ⟨p, 0, none⟩)] W fun e w' => e = .returned (.int .i64 (l.length : Int)) ∧ W = w' := by
  obtain ⟨⟨A, c, hW, hn⟩, ho⟩ := h
  exact cwlen_calls W p A c l hW
set_option maxRecDepth 100000 in
theorem WT.bytes {T : Nat → Prop} {p : Nat} {l : List UInt8} {W : World} (h : WT T p l W) (hs : l.length ≤ 100000000) :
    Calls Tryd.prog 18 #[.pointer (some ⟨p, 0, none⟩)] W (Mk W l) := by
  obtain ⟨⟨A, c, hW, hn⟩, ho⟩ := h
  exact wbytes_calls W p A c l hW (by omega)
set_option maxRecDepth 100000 in
theorem WT.below {T : Nat → Prop} {p : Nat} {l : List UInt8} {W W' : World} (h : WT T p l W) (hb : Below W.heap.size W W') : WT (fun i => T i ∨ (W.heap.size ≤ i ∧ i < W'.heap.size)) p l W' := by
  obtain ⟨⟨A, c, hW, hn⟩, ho⟩ := h
  refine ⟨⟨A, c, hW.below hb, fun i hi hT => ?_⟩, fun i hi => ?_⟩
  · rcases hT with hT | hT
    · exact hn i hi hT
    · have := hW.lt i hi
      omega
  · rcases hi with hi | hi
    · exact Nat.lt_of_lt_of_le (ho i hi) hb.size
    · exact hi.2
set_option maxRecDepth 100000 in
theorem WT.weak {S T : Nat → Prop} {p : Nat} {l : List UInt8} {W : World} (h : WT T p l W) (hST : ∀ i, S i → T i) : WT S p l W := by
  obtain ⟨⟨A, c, hW, hn⟩, ho⟩ := h
  exact ⟨⟨A, c, hW, fun i hi hS => hn i hi (hST i hS)⟩, fun i hi => ho i (hST i hi)⟩
set_option maxRecDepth 100000 in
theorem frm_old {T : Nat → Prop} {B : Nat} {w W W' : World} (hb : Below B w W) (hB : B ≤ W.heap.size) (hT : ∀ i, i < B → T i) (hf : Frm (fun i => ¬ T i) W W') : Below B w W' :=
  hb.trans (hf.below hB fun i hi => Nat.le_of_not_lt fun h => hi (hT i h))
set_option maxRecDepth 100000 in
theorem rdF_old {T : Nat → Prop} {B : Nat} {w W : World} {A : Option Addr} {n : Nat} {l : List UInt8} (h : Rd w A n l) (hB : B = w.heap.size) (hb : Below B w W) (hT : ∀ i, i < B → T i) : RdF W (fun i => ¬ T i) A n l := by
  subst hB
  exact RdF.old h hb fun i hi => Nat.le_of_not_lt fun hlt => hi (hT i hlt)
set_option maxRecDepth 100000 in
theorem oenc_len (o : Nat × List UInt8) (h : o.2.length ≤ 64) : (oenc o).length ≤ 90 := by
  unfold oenc
  have := more_le o.2.length
  rw [List.length_append, List.length_append, little_len, cnt_len]
  omega
set_option maxRecDepth 100000 in
theorem osenc_len : ∀ (O : List (Nat × List UInt8)), (∀ o ∈ O, o.2.length ≤ 64) → (osenc O).length ≤ O.length * 90
  | [], _ => Nat.le_refl _
  | o :: O, h => by
    have h1 := oenc_len o (h o (by simp))
    have h2 := osenc_len O fun x hx => h x (by simp [hx])
    rw [osenc_cons, List.length_append, List.length_cons]
    omega
set_option maxRecDepth 100000 in
theorem osenc_take (O : List (Nat × List UInt8)) (i : Nat) (h : i < O.length) : osenc (O.take (i + 1)) = osenc (O.take i) ++ (little O[i].1 8 ++ (cnt O[i].2.length ++ O[i].2)) := by
  rw [List.take_succ_eq_append_getElem h, osenc_snoc]
  rfl
/-- The head of a transaction's bytes. -/
def thead (s n : Nat) : List UInt8 := [1] ++ (little s 8 ++ cnt n)
set_option maxRecDepth 100000 in
theorem thead_len (s n : Nat) : (thead s n).length ≤ 20 := by
  unfold thead
  have := more_le n
  rw [List.length_append, List.length_append, little_len, cnt_len]
  simp
  omega
set_option maxRecDepth 100000 in
theorem take_all_le {O : List (Nat × List UInt8)} {i : Nat} (hi : i < O.length) (h : ∀ j (hj : j < O.length), j < i → O[j].2.length ≤ 64) (h2 : O[i].2.length ≤ 64) : ∀ j (hj : j < O.length), j < i + 1 → O[j].2.length ≤ 64 := fun j hj hji => by
  rcases Nat.lt_or_ge j i with h' | h'
  · exact h j hj h'
  · have e : j = i := by omega
    subst e
    exact h2
set_option maxRecDepth 100000 in
theorem take_le_all {O : List (Nat × List UInt8)} {i : Nat} (h : ∀ j (hj : j < O.length), j < i → O[j].2.length ≤ 64) : ∀ o ∈ O.take i, o.2.length ≤ 64 := fun o ho => by
  obtain ⟨j, hj, rfl⟩ := List.getElem_of_mem ho
  rw [List.length_take] at hj
  rw [List.getElem_take]
  exact h j (by omega) (by omega)
set_option maxRecDepth 100000 in
theorem long_yes {O : List (Nat × List UInt8)} {i : Nat} (hi : i < O.length) (h : 64 < O[i].2.length) : long O = true := by
  unfold long
  rw [List.any_eq_true]
  exact ⟨O[i], List.getElem_mem hi, decide_eq_true h⟩
set_option maxRecDepth 100000 in
set_option maxHeartbeats 4000000 in
theorem gtbytes_calls (s : Nat) (A : Option Addr) (n c : Nat) (O : List (Nat × List UInt8)) (w : World) (hr : RdT w A n O) (hn : n ≤ 1000) (hO : ∀ o ∈ O, o.2.length ≤ 1000) :
    Calls Tryd.prog 6 #[.agg #[.int .u64 (s : Int), .slice A n c]] w fun e w' => ∃ A' n' c', e = .returned (.tuple #[.slice A' n' c', .int .i64 (tbE s O : Int)]) ∧ Rd w' A' n' (tbB s O) ∧ n' ≤ c' ∧ c' ≤ maxLen ∧ Below w.heap.size w w' := by
  have hln := hr.len
  have hbox : Below w.heap.size w (w.alloc (.cells #[.int .u64 (s : Int), .slice A n c] 25)) := (Below.refl _ w).alloc (Nat.le_refl _) _
  by_cases h8 : 8 < n
  · have h8' : (8 : Int) < (n : Int) := by omega
    have hE : tbE s O = 4 := by unfold tbE; rw [if_pos (by omega)]
    have hN : tbB s O = [] := by unfold tbB; rw [if_neg (by omega)]
    rw [hE, hN]
    have HB := Lib.hid hbox
    clear hr hln hbox hE hN hO
    go_enter Tryd.func6, Tryd.ntmps6
    go_wp2
    go_ret2
    exact ⟨none, 0, 0, rfl, Rd.nil _ _, Nat.le_refl _, by unfold maxLen; omega, HB.out⟩
  have h8' : ¬ (8 : Int) < (n : Int) := by omega
  have HR := Lib.hid hr
  have HL := Lib.hid hln
  have HO := Lib.hid hO
  have hk1 : Blk (w.alloc (.cells #[.int .u64 (s : Int), .slice A n c] 25)) w.heap.size [.int .u64 (s : Int), .slice A n c] 25 := Blk.new w _ _
  obtain ⟨w1, hw1⟩ : ∃ z, z = w.alloc (.cells #[.int .u64 (s : Int), .slice A n c] 25) := ⟨_, rfl⟩
  obtain ⟨g1, hg1⟩ : ∃ z, z = w.heap.size := ⟨_, rfl⟩
  have HW := Lib.hid (And.intro hw1 hg1)
  have HS1 : Hid (w1.heap.size = g1 + 1) := Lib.hid (by rw [hw1, hg1]; simp)
  rw [← hw1, ← hg1] at hk1
  rw [← hw1] at hbox
  have s10 : w1.cell? ⟨g1, 0, none⟩ = some (.int .u64 (s : Int)) := hk1.cell 0
  have s11 : w1.cell? ⟨g1, 1, none⟩ = some (.slice A n c) := hk1.cell 1
  have HK1 := Lib.hid (And.intro hk1 hbox)
  have wn : IntKind.u64.wrap (n : Int) = (n : Int) := by rw [IntKind.wrap_u64]; omega
  obtain ⟨a1, ha1⟩ : ∃ z : List UInt8, z = [] ++ little 1 1 := ⟨_, rfl⟩
  obtain ⟨a2, ha2⟩ : ∃ z : List UInt8, z = a1 ++ little s 8 := ⟨_, rfl⟩
  obtain ⟨a3, ha3⟩ : ∃ z : List UInt8, z = a2 ++ cnt n := ⟨_, rfl⟩
  have HA3 : Hid (a3 = thead s n) := Lib.hid (by rw [ha3, ha2, ha1]; unfold thead; rw [show little 1 1 = [1] from by decide]; simp only [List.nil_append, List.append_assoc])
  have HL3 : Hid (a1.length ≤ 20 ∧ a2.length ≤ 20 ∧ a3.length ≤ 20) := Lib.hid (by
    have h3 : a3.length ≤ 20 := by rw [HA3.out]; exact thead_len s n
    have h2 : a2.length ≤ a3.length := by rw [ha3, List.length_append]; omega
    have h1 : a1.length ≤ a2.length := by rw [ha2, List.length_append]; omega
    omega)
  have CN1 : Hid (∀ (T : Nat → Prop) (p : Nat) (W : World), WT T p [] W → Calls Tryd.prog 14 #[.pointer (some ⟨p, 0, none⟩), .int .u64 1, .int .i64 1] W (Wrote T p a1 W)) := Lib.hid fun T p W h => by rw [ha1]; exact h.num 1 1 1 (by decide) (by simp)
  have CN2 : Hid (∀ (T : Nat → Prop) (p : Nat) (W : World), WT T p a1 W → Calls Tryd.prog 14 #[.pointer (some ⟨p, 0, none⟩), .int .u64 (s : Int), .int .i64 8] W (Wrote T p a2 W)) := Lib.hid fun T p W h => by rw [ha2]; exact h.num s 8 8 (by decide) (by have := HL3.out.1; omega)
  have CN3 : Hid (∀ (T : Nat → Prop) (p : Nat) (W : World), WT T p a2 W → Calls Tryd.prog 15 #[.pointer (some ⟨p, 0, none⟩), .int .u64 (n : Int)] W (Wrote T p a3 W)) := Lib.hid fun T p W h => by rw [ha3]; exact h.var n (by have := HL3.out.2.1; omega)
  clear hr hln hO hk1 hbox hw1 hg1 ha1 ha2 ha3
  go_enter Tryd.func6, Tryd.ntmps6
  go_upto_region 1 with fail
  rw [← HW.out.1, ← HW.out.2]
  go_upto_region 4 with (go_at_call 13; refine (wnew_calls _).mono ?_; rintro e' w2 ⟨p, rfl, hp, hW2, hB2⟩)
  have hT2 : WT (fun i => i < p) p [] w2 := ⟨⟨none, 0, hW2, fun i hi hlt => by
    rcases hi with rfl | hi
    · exact Nat.lt_irrefl _ hlt
    · simp [blkOf] at hi⟩, fun i hi => by have := hB2.size; omega⟩
  have k2 := HK1.out.1.below hB2 HK1.out.1.lt
  have hgp : g1 < p := by have := HS1.out; omega
  have hbw2 := below_more HK1.out.2 hB2
  have s20 : w2.cell? ⟨g1, 0, none⟩ = some (.int .u64 (s : Int)) := k2.cell 0
  have s21 : w2.cell? ⟨g1, 1, none⟩ = some (.slice A n c) := k2.cell 1
  have HG : Hid (∀ i, i < w.heap.size → i < p) := Lib.hid fun i hi => by have := HW.out.2; omega
  have HP1 : Hid (w.heap.size ≤ w2.heap.size) := Lib.hid hbw2.size
  have HQ2 := Lib.hid (And.intro k2 (And.intro hT2 hbw2))
  clear hp hW2 hB2 hT2 k2 hbw2 s10 s11
  go_upto_region 5 with (go_at_call 14; refine (CN1.out _ p w2 HQ2.out.2.1).mono ?_; rintro e' w3 ⟨rfl, hT3, hF3⟩)
  have k3 := hF3.blk HQ2.out.1 (fun h => h hgp)
  have s30 : w3.cell? ⟨g1, 0, none⟩ = some (.int .u64 (s : Int)) := k3.cell 0
  have s31 : w3.cell? ⟨g1, 1, none⟩ = some (.slice A n c) := k3.cell 1
  have HQ3 := Lib.hid (And.intro k3 (And.intro hT3 (frm_old HQ2.out.2.2 HP1.out HG.out hF3)))
  have HP3 : Hid (w.heap.size ≤ w3.heap.size) := Lib.hid HQ3.out.2.2.size
  clear hT3 hF3 k3 s20 s21
  go_upto_region 6 with (go_at_call 14; refine (CN2.out _ p w3 HQ3.out.2.1).mono ?_; rintro e' w4 ⟨rfl, hT4, hF4⟩)
  have k4 := hF4.blk HQ3.out.1 (fun h => h hgp)
  have s40 : w4.cell? ⟨g1, 0, none⟩ = some (.int .u64 (s : Int)) := k4.cell 0
  have s41 : w4.cell? ⟨g1, 1, none⟩ = some (.slice A n c) := k4.cell 1
  have HQ4 := Lib.hid (And.intro k4 (And.intro hT4 (frm_old HQ3.out.2.2 HP3.out HG.out hF4)))
  have HP4 : Hid (w.heap.size ≤ w4.heap.size) := Lib.hid HQ4.out.2.2.size
  clear hT4 hF4 k4 s30 s31
  go_upto_region 7 with (go_at_call 15; refine (CN3.out _ p w4 HQ4.out.2.1).mono ?_; rintro e' w5 ⟨rfl, hT5, hF5⟩)
  have k5 := hF5.blk HQ4.out.1 (fun h => h hgp)
  have s51 : w5.cell? ⟨g1, 1, none⟩ = some (.slice A n c) := k5.cell 1
  have HQ5 := Lib.hid (And.intro hT5 (frm_old HQ4.out.2.2 HP4.out HG.out hF5))
  clear hT5 hF5 k5 s40 s41
  go_wp2
  go_loopw [27] (fun cv wr => ∃ (i : Nat), i ≤ n ∧ cv = .int .i64 (i : Int) ∧ (∀ j (hj : j < O.length), j < i → O[j].2.length ≤ 64) ∧ WT (fun i => i < p) p (a3 ++ osenc (O.take i)) wr ∧ Below w.heap.size w wr) (fun cv _ => n - (intOf cv).toNat)
  case atStart => exact ⟨0, Nat.zero_le _, rfl, fun j _ hj => absurd hj (by omega), by rw [List.take_zero, osenc_nil, List.append_nil]; exact HQ5.out.1, HQ5.out.2⟩
  case round =>
    obtain ⟨i, hin, rfl, hall, hT, hB⟩ := hrel
    clear s51
    have hlen := osenc_len _ (take_le_all hall)
    rw [List.length_take] at hlen
    obtain ⟨l, hl0⟩ : ∃ z, z = a3 ++ osenc (O.take i) := ⟨_, rfl⟩
    have hll : l.length ≤ 2000 := by
      rw [hl0, List.length_append]
      have := HL3.out.2.2
      have := HL.out
      omega
    rw [← hl0] at hT
    by_cases hlt : i < n
    · have hlt' : (i : Int) < (n : Int) := by omega
      obtain ⟨b, off, hl, rfl, hb, Y, k, c', hrg, h1, h2, h3, h4⟩ := HR.out.at_ hlt
      have hyl := HO.out O[i] (List.getElem_mem hl)
      have hkl := h3.len
      have hstep := osenc_take O i hl
      have HLY : Hid (64 < k → long O = true) := Lib.hid fun h => long_yes hl (by omega)
      have HALL : Hid (k ≤ 64 → ∀ j (hj : j < O.length), j < i + 1 → O[j].2.length ≤ 64) := Lib.hid fun h => take_all_le hl hall (by omega)
      obtain ⟨y, hy⟩ : ∃ z, z = O[i].2 := ⟨_, rfl⟩
      obtain ⟨v, hv⟩ : ∃ z, z = O[i].1 := ⟨_, rfl⟩
      rw [← hy] at h3 hyl hkl
      rw [← hv] at hrg
      rw [← hv, ← hy, hkl] at hstep
      have sc0 : wr.cell? ⟨b, off + i * 2, none⟩ = some (.int .u64 (v : Int)) := (hB.cell (p := ⟨b, off + i * 2, none⟩) hb).trans (hrg 0 _ rfl)
      have sc1 : wr.cell? ⟨b, off + i * 2 + 1, none⟩ = some (.slice Y k c') := (hB.cell (p := ⟨b, off + i * 2 + 1, none⟩) hb).trans (hrg 1 _ rfl)
      have hba : Below wr.heap.size wr (wr.alloc (.cells #[.int .u64 (v : Int), .slice Y k c'] 46)) := (Below.refl _ wr).alloc (Nat.le_refl _) _
      have k6 : Blk (wr.alloc (.cells #[.int .u64 (v : Int), .slice Y k c'] 46)) wr.heap.size [.int .u64 (v : Int), .slice Y k c'] 46 := Blk.new wr _ _
      have hs6 : (wr.alloc (.cells #[.int .u64 (v : Int), .slice Y k c'] 46)).heap.size = wr.heap.size + 1 := by simp
      obtain ⟨w6, hw6⟩ : ∃ z, z = wr.alloc (.cells #[.int .u64 (v : Int), .slice Y k c'] 46) := ⟨_, rfl⟩
      obtain ⟨g6, hg6⟩ : ∃ z, z = wr.heap.size := ⟨_, rfl⟩
      have HW6 := Lib.hid (And.intro hw6 hg6)
      rw [← hw6, ← hg6] at k6
      rw [← hw6] at hba hs6
      have s60 : w6.cell? ⟨g6, 0, none⟩ = some (.int .u64 (v : Int)) := k6.cell 0
      have s61 : w6.cell? ⟨g6, 1, none⟩ = some (.slice Y k c') := k6.cell 1
      have hB6 := below_more hB hba
      have hT6 : WT (fun i => i < p ∨ i = g6) p l w6 := (hT.below hba).weak fun j hj => by
        rcases hj with hj | hj
        · exact .inl hj
        · exact .inr (by omega)
      have HYR := Lib.hid (rdF_old (T := fun i => i < p ∨ i = g6) h3 rfl hB6 fun j hj => .inl (HG.out j hj))
      have HB6 := Lib.hid hB6
      by_cases h64 : 64 < k
      · have h64' : (64 : Int) < (k : Int) := by omega
        have HE : Hid (tbE s O = 4) := Lib.hid (by unfold tbE; rw [if_neg (by have := HL.out; omega), if_pos (HLY.out h64)])
        have HN : Hid (tbB s O = []) := Lib.hid (by unfold tbB; rw [if_neg (by rw [HE.out]; omega)])
        clear hall hT hB hlen hl0 hll hb hrg h1 h2 h3 h4 hyl hkl hy hv hstep hba k6 hs6 hw6 hg6 hB6 hT6 hl
        go_upto_region 10 with fail
        rw [← HW6.out.1, ← HW6.out.2]
        clear sc0 sc1
        go_wp2
        go_ret2
        rw [HE.out, HN.out]
        exact ⟨none, 0, 0, rfl, Rd.nil _ _, Nat.le_refl _, by unfold maxLen; omega, HB6.out⟩
      · have h64' : ¬ (64 : Int) < (k : Int) := by omega
        have CA : Hid (Calls Tryd.prog 14 #[.pointer (some ⟨p, 0, none⟩), .int .u64 (v : Int), .int .i64 8] w6 (Wrote (fun i => i < p ∨ i = g6) p (l ++ little v 8) w6)) := Lib.hid (hT6.num v 8 8 (by decide) (by omega))
        have CB : Hid (∀ W, WT (fun i => i < p ∨ i = g6) p (l ++ little v 8) W → Frm (fun i => ¬ (i < p ∨ i = g6)) w6 W → Calls Tryd.prog 16 #[.pointer (some ⟨p, 0, none⟩), .slice Y k c'] W (Wrote (fun i => i < p ∨ i = g6) p ((l ++ little v 8) ++ (cnt k ++ y)) W)) := Lib.hid fun W h1 h2 => h1.text Y k c' y (HYR.out.frm h2) (by omega) (by rw [List.length_append, little_len]; omega)
        have HST : Hid ((l ++ little v 8) ++ (cnt k ++ y) = a3 ++ osenc (O.take (i + 1))) := Lib.hid (by rw [hstep, hl0]; simp only [List.append_assoc])
        have HA := Lib.hid (HALL.out (by omega))
        have HK6 := Lib.hid k6
        clear hall hT hB hlen hl0 hll hb hrg h1 h2 h3 h4 hyl hkl hy hv hstep hba k6 hs6 hw6 hg6 hB6 hT6 hl
        go_upto_region 10 with fail
        rw [← HW6.out.1, ← HW6.out.2]
        clear sc0 sc1
        go_wp2_with (first
          | (go_at_call 14; refine CA.out.mono ?_; rintro e' w7 ⟨rfl, hT7, hF7⟩
             have k7 := hF7.blk HK6.out (fun h => h (.inr rfl))
             have s71 : w7.cell? ⟨g6, 1, none⟩ = some (.slice Y k c') := k7.cell 1
             have HQ7 := Lib.hid (And.intro hT7 hF7)
             clear hT7 hF7 k7)
          | (go_at_call 16; refine (CB.out w7 HQ7.out.1 HQ7.out.2).mono ?_; rintro e' w8 ⟨rfl, hT8, hF8⟩))
        go_roundw
        case rel => exact ⟨i + 1, by omega, by go_num, HA.out, by rw [← HST.out]; exact hT8.weak (fun j hj => .inl hj), frm_old (frm_old HB6.out HB6.out.size (fun j hj => .inl (HG.out j hj)) HQ7.out.2) (Nat.le_trans HB6.out.size HQ7.out.2.size) (fun j hj => .inl (HG.out j hj)) hF8⟩
        case measure => simp [intOf]; omega
    · have hlt' : ¬ (i : Int) < (n : Int) := by omega
      have hO64 : ∀ o ∈ O, o.2.length ≤ 64 := fun o ho => by
        obtain ⟨j, hj, rfl⟩ := List.getElem_of_mem ho
        exact hall j hj (by have := HL.out; omega)
      have hlt0 : l = tenc s O := by
        rw [hl0, List.take_of_length_le (by have := HL.out; omega), HA3.out, ← HL.out]
        rfl
      obtain ⟨N, hN⟩ : ∃ z, z = l.length := ⟨_, rfl⟩
      have CL : Hid (Calls Tryd.prog 17 #[.pointer (some ⟨p, 0, none⟩)] wr fun e w' => e = .returned (.int .i64 (N : Int)) ∧ wr = w') := Lib.hid (by rw [hN]; exact hT.len)
      have CY : Hid (Calls Tryd.prog 18 #[.pointer (some ⟨p, 0, none⟩)] wr (Mk wr l)) := Lib.hid (hT.bytes (by omega))
      have HBB := Lib.hid hB
      by_cases h64 : N = 64
      · have h64' : (N : Int) = 64 := by omega
        have HE : Hid (tbE s O = 3) := Lib.hid (by unfold tbE; rw [if_neg (by have := HL.out; omega), if_neg (by rw [long_of hO64]; decide), if_pos (by rw [← hlt0]; omega)])
        have HN : Hid (tbB s O = []) := Lib.hid (by unfold tbB; rw [if_neg (by rw [HE.out]; omega)])
        clear hall hT hB hlen hl0 hll hO64 hlt0 hN h64
        go_wp2_with (go_at_call 17; refine CL.out.mono ?_; rintro e' w9 ⟨rfl, rfl⟩)
        go_ret2
        rw [HE.out, HN.out]
        exact ⟨none, 0, 0, rfl, Rd.nil _ _, Nat.le_refl _, by unfold maxLen; omega, HBB.out⟩
      · have h64' : ¬ (N : Int) = 64 := by omega
        have HE : Hid (tbE s O = 0) := Lib.hid (by unfold tbE; rw [if_neg (by have := HL.out; omega), if_neg (by rw [long_of hO64]; decide), if_neg (by rw [← hlt0]; omega)])
        have HN : Hid (tbB s O = l) := Lib.hid (by unfold tbB; rw [if_pos HE.out, hlt0])
        clear hall hT hB hlen hl0 hll hO64 hlt0 hN h64
        go_wp2_with (first
          | (go_at_call 17; refine CL.out.mono ?_; rintro e' w9 ⟨rfl, rfl⟩)
          | (go_at_call 18; refine CY.out.mono ?_; rintro e' w10 ⟨A10, n10, c10, rfl, ho10, hB10⟩))
        go_ret2
        rw [HE.out, HN.out]
        have hcp := own_cap ho10
        exact ⟨A10, n10, c10, rfl, ho10.rd, hcp.1, hcp.2, below_more HBB.out hB10⟩
end Go.Proofs.YthkkllcpogagiaaDoor

/- Steps that name the world behind: a new variable of an array or a struct, in plain and in drawn regions. -/
namespace Go.Proofs.YthkkllcpogagiaaDoor
open Go.RowKit
set_option linter.unusedVariables false

set_option maxRecDepth 100000 in
theorem run_allocT {P : Program} (T : TypeId) (Z : List Value) (hz : (P.info? T).map (·.zero) = some (some (.agg Z.toArray))) (W : World) : (Instr.alloc T true (.tuple #[])).run P W = .ok (.pointer (some ⟨W.heap.size, 0, none⟩)) (W.alloc (.cells Z.toArray T)) := by
  obtain ⟨i, hi, hzz⟩ := Option.map_eq_some_iff.1 hz
  simp [Instr.alloc, zeroValue, typeInfo, hi, hzz, newVar, newRow, Value.cells]
set_option maxRecDepth 100000 in
/-- A new variable. -/
theorem wp_allocT {P : Program} {o : Oper} {a : Act} {W : World} {K : Act → World → Prop} {Q : Exit → Act → World → Prop} (T : TypeId) (Z : List Value) (hz : (P.info? T).map (·.zero) = some (some (.agg Z.toArray))) (ho : o.op = .alloc T) (base : Nat) (w : World) (hb : Below base w W) (hbase : base ≤ w.heap.size)
    (h : ∀ g w', Blk w' g Z T → W.heap.size ≤ g → g < w'.heap.size → Frm (fun _ => False) W w' → Below base w w' → K (a.put o.dst (.pointer (some ⟨g, 0, none⟩))) w') : o.wp P a W K Q := by
  unfold Oper.wp execOp
  simp only [ho, Sem.run_bind, run_allocT T Z hz, Result.andThen_ok]
  exact h W.heap.size _ (Blk.new W _ _) (Nat.le_refl _) (by simp) (Frm.of_below ((Below.refl _ W).alloc (Nat.le_refl _) _)) (hb.alloc (Nat.le_trans hbase hb.size) _)
set_option maxRecDepth 100000 in
theorem wpList_allocT {P : Program} {ops : Array Oper} {rest : List Oper} {o : Oper} {a : Act} {W : World} {Q : Exit → Act → World → Prop} (hgd : o.guard = none) (T : TypeId) (Z : List Value) (hz : (P.info? T).map (·.zero) = some (some (.agg Z.toArray))) (ho : o.op = .alloc T) (base : Nat) (w : World) (hb : Below base w W) (hbase : base ≤ w.heap.size)
    (h : ∀ g w', Blk w' g Z T → W.heap.size ≤ g → g < w'.heap.size → Frm (fun _ => False) W w' → Below base w w' → wpList P ops Q rest (a.put o.dst (.pointer (some ⟨g, 0, none⟩))) w') : wpList P ops Q (o :: rest) a W :=
  wpList_plain hgd fun _ hK => wp_allocT T Z hz ho base w hb hbase (fun g w' h1 h2 h3 h4 h5 => hK _ _ (h g w' h1 h2 h3 h4 h5))
set_option maxRecDepth 100000 in
theorem at_alloc {P : Program} {ops : Array Oper} {rest : List Oper} {Q : Exit → Act → World → Prop} {a : Act} {w : World} {dst : Option Tmp} {t : TypeId} {p : String} {af : Array Edge} (ty : TypeId)
    (h : wpList P ops Q ({ dst := dst, op := .alloc ty, type := t, pos := p, after := af, guard := none } :: rest) a w) : wpList P ops Q ({ dst := dst, op := .alloc ty, type := t, pos := p, after := af, guard := none } :: rest) a w := h
set_option maxRecDepth 100000 in
theorem at_bldZ {P : Program} {ops : Array Oper} {rest : List Oper} {Q : Exit → Act → World → Prop} {a : Act} {w : World} {dst : Option Tmp} {t : TypeId} {p : String} {af : Array Edge} (ty : TypeId) (parts : Array (Nat × Operand))
    (h : wpList P ops Q ({ dst := dst, op := .build ty parts, type := t, pos := p, after := af, guard := none } :: rest) a w) : wpList P ops Q ({ dst := dst, op := .build ty parts, type := t, pos := p, after := af, guard := none } :: rest) a w := h
set_option maxRecDepth 100000 in
/-- A cell of a struct or an array is stored. -/
theorem run_storeAt_cell {P : Program} {w : World} {g off : Nat} {cs : List Value} {t : TypeId} (ty : TypeId) (v : Value) (hb : Blk w g cs t) (hoff : off < cs.length) (hi : (P.info? ty).map (·.size) = some 1) (h1 : v.oneCell' = true) (hc : v.cells = #[v]) :
    (Instr.storeAt ty (.pointer (some ⟨g, off, none⟩)) v).run P w = .ok () (w.setCell ⟨g, off, none⟩ v) := by
  have ht := hb.there off 1 (by omega)
  have := run_storeCells_cells (P := P) g off [v] 0 w (fun j hj => by simpa using (ht j (by simpa using hj)).1) (fun j hj => by simpa using (ht j (by simpa using hj)).2) (fun u hu => by simp at hu; rw [hu]; exact h1)
  obtain ⟨i, hq, hs⟩ := Option.map_eq_some_iff.1 hi
  simp only [Nat.add_zero] at this
  simp [Instr.storeAt, Instr.sureAddr, storeVar, sizeOf, typeInfo, hq, hc, hs, this, World.setCells]
set_option maxRecDepth 100000 in
theorem wp_storeC {P : Program} {o : Oper} {a : Act} {W : World} {K : Act → World → Prop} {Q : Exit → Act → World → Prop} (ty : TypeId) (x y : Operand) (ho : o.op = .store ty x y) (g off : Nat) (v : Value) (cs : List Value) (t : TypeId) (hx : a.eval x = .pointer (some ⟨g, off, none⟩)) (hy : a.eval y = v)
    (hb : Blk W g cs t) (hoff : off < cs.length) (hi : (P.info? ty).map (·.size) = some 1) (h1 : v.oneCell' = true) (hc : v.cells = #[v]) (h : ∀ w2, Blk w2 g (cs.set off v) t → Only g W w2 → K (a.put o.dst undef) w2) : o.wp P a W K Q := by
  unfold Oper.wp execOp
  simp only [ho, hx, hy, Sem.run_bind, Sem.run_pure, run_storeAt_cell ty v hb hoff hi h1 hc, Result.andThen_ok]
  exact h _ (hb.set off v) ((Only.refl g W).set off v)
end Go.Proofs.YthkkllcpogagiaaDoor
