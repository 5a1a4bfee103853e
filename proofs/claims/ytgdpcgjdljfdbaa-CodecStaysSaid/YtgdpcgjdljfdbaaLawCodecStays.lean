/- Proved: for every bytes and every list of parts: behind an error nothing is taken, whatever is asked for, and the first error stays; of more than 60 bytes nothing more than the document's example is said, and of the parts the first 12 are looked at. The arguments read as they did. No condition. -/
import Derived.Test.YtgdpcgjdljfdbaaRows
import Derived.Test.YtgdpcgjdljfdbaaCodA
import Derived.Test.YtgdpcgjdljfdbaaCodO
import Derived.Deep.RegionHeld3
import Derived.Deep.CutRange
import Derived.Deep.DeepCutAuto
import Derived.ProofKit
import Derived.OpenShut
import Derived.ShutString
import Derived.ChangeOld
import Derived.SizedLaws
import Derived.Test.YtgdpcgjdljfdbaaOpen
namespace Go.Proofs.Ytgdpcgjdljfdbaa.codecStays
open Go.ChangeShapes Go.WideShapes Go.ChangeAt Go.RowKit
open Go.ChangeMaps (open_string shut_string)
set_option linter.unusedVariables false
set_option linter.unusedSimpArgs false

theorem own : ownKnob Try.prog.godebug = none := by kernel_rfl
theorem laidOut : laidOutB Try.prog = true := by kernel_rfl

/-- What holds in a round: the reader has its error, the part lies in its block, and what was there still stands. -/
structure Sty (w : World) (q : Nat) (l : List UInt8) (g : Nat) (o : Op4) (W : World) : Prop where
  rr : Rr W q l 2
  blk : Blk W g o.cells 28
  bel : Below w.heap.size w W
  ne : g ≠ q
theorem Sty.c1 {w : World} {q : Nat} {l : List UInt8} {g : Nat} {o : Op4} {W : World} (h : Sty w q l g o W) : W.cell? ⟨g, 1, none⟩ = some (.int .u64 (o.n : Int)) := h.blk.cell 1
theorem Sty.c2 {w : World} {q : Nat} {l : List UInt8} {g : Nat} {o : Op4} {W : World} (h : Sty w q l g o W) : W.cell? ⟨g, 2, none⟩ = some (.int .i64 o.m) := h.blk.cell 2
theorem Sty.step {w : World} {q : Nat} {l : List UInt8} {g : Nat} {o : Op4} {W W' : World} (h : Sty w q l g o W) (hr : Rr W' q l 2) (hf : Frm (fun i => i = q) W W') (hq : w.heap.size ≤ q) : Sty w q l g o W' :=
  ⟨hr, hf.blk h.blk (fun e => h.ne e), below_frm h.bel hf (fun i hi => by omega), h.ne⟩
theorem tk2 (l : List UInt8) (n : Nat) : tkV l 2 n = [] ∧ tkL l 2 n = l ∧ tkE l 2 n = 2 := by simp [tkV, tkL, tkE]
theorem cv2 (l : List UInt8) (n : Nat) : cvV l 2 n = 0 ∧ cvL l 2 n = l ∧ cvE l 2 n = 2 := by simp [cvV, cvL, cvE]
theorem tx2 (l : List UInt8) (n : Nat) : txV l 2 n = [] ∧ txL l 2 n = l ∧ txE l 2 n = 2 := by
  have h1 := cv2 l n
  have h2 := tk2 l 0
  unfold txL txV txE
  rw [h1.1, h1.2.1, h1.2.2]
  exact ⟨h2.1, by rw [h2.2.2]; rfl, h2.2.2⟩
theorem own0 {W : World} {base n c : Nat} {A : Option Addr} (h : Own W base A n c []) : n = 0 := by have := h.len; simpa using this.symm
set_option maxRecDepth 100000 in
set_option maxHeartbeats 4000000 in
theorem walk (A : Option Addr) (n c : Nat) (l : List UInt8) (B : Option Addr) (m k : Nat) (P : List Op4) (w : World) (w0 : Rd w A n l ∧ n ≤ c ∧ c ≤ maxLen ∧ n ≤ 140737488355328) (w1 : RdO w B m P ∧ m ≤ k ∧ k ≤ maxLen) :
    Calls Try.prog 7 #[.slice A n c, .slice B m k] w (Ret w (.bool true)) := by
  obtain ⟨hr, hnc, hcm, h47⟩ := w0
  obtain ⟨hP, hmk, hkm⟩ := w1
  unfold maxLen at hkm
  have hl := hr.len
  have HO := Lib.hid (of_calls A n c l w h47 hr)
  have HP := Lib.hid hP
  clear hr hcm hP
  by_cases h60 : 60 < n
  · have hd : (60 : Int) < (n : Int) := by omega
    go_enter Try.func7, Try.ntmps7
    go_wp2_with fail
    refine HO.out.mono ?_
    rintro e' w1 ⟨q, rfl, hq, hr1, hb1⟩
    go_wp2_with fail
    refine (awake_calls _).mono ?_
    rintro e' w2 ⟨rfl, hb2⟩
    go_wp2
    go_ret
    exact ⟨rfl, below_more hb1 hb2⟩
  · have hd : ¬ (60 : Int) < (n : Int) := by omega
    go_enter Try.func7, Try.ntmps7
    go_wp2_with fail
    refine HO.out.mono ?_
    rintro e' w1 ⟨q, rfl, hq, hr1, hb1⟩
    have H1 : Hid (Calls Try.prog 26 #[.pointer (some ⟨q, 0, none⟩), .int .i64 ((n : Int) + 1)] w1 fun en w' => ∃ A m c, en = .returned (.slice A m c) ∧ Rr w' q l 2 ∧ Frm (fun i => i = q) w1 w') := Lib.hid (by
      have hc := take_calls w1 q l 0 hr1 ((n : Int) + 1) (n + 1) (by omega)
      have h1 : tkL l 0 (n + 1) = l := by unfold tkL; rw [if_neg (by omega)]
      have h2 : tkE l 0 (n + 1) = 2 := by unfold tkE; rw [if_pos rfl, if_neg (by omega)]
      rw [h1, h2] at hc
      refine hc.mono ?_
      rintro e W' ⟨A', n', c', rfl, _, hr, hf⟩
      exact ⟨A', n', c', rfl, hr, hf⟩)
    clear hr1
    go_wp2_with fail
    refine H1.out.mono ?_
    rintro e' w2 ⟨A2, n2, c2, rfl, hr2, hf2⟩
    have hb2 : Below w.heap.size w w2 := below_frm hb1 hf2 (fun i hi => by omega)
    have H2 := Lib.hid (err_calls w2 q l 2 hr2)
    clear H1 hf2 hb1 HO
    go_wp2_with fail
    refine H2.out.mono ?_
    rintro e' w2' ⟨rfl, rfl⟩
    clear H2
    go_wp2
    go_loopw [26] (fun i wr => ∃ t : Nat, t ≤ m ∧ t ≤ 12 ∧ i = .int .i64 t ∧ Rr wr q l 2 ∧ Below w.heap.size w wr) (fun i _ => m - (intOf i).toNat)
    case atStart => exact ⟨0, Nat.zero_le _, by omega, rfl, hr2, hb2⟩
    case round =>
      obtain ⟨t, ht, ht12, rfl, hrr, hbw⟩ := hrel
      by_cases hlt : t < m
      · obtain ⟨b, off, hlP, rfl, hrange, hok⟩ := HP.out.at_ hbw (k := t) hlt
        obtain ⟨o, ho⟩ : ∃ o, o = P[t] := ⟨_, rfl⟩
        rw [← ho] at hrange hok
        obtain ⟨X, hX⟩ : ∃ X, X = o.cells := ⟨_, rfl⟩
        have IX : Hid ((Try.prog.info? 28).map (·.size) = some X.length) := Lib.hid (by rw [hX]; exact o.size)
        have LX : Hid (zerosO.length = X.length) := Lib.hid (by rw [hX]; rfl)
        have OX : Hid (∀ v ∈ X, v.oneCell' = true) := Lib.hid (by rw [hX]; exact o.one)
        rw [← hX] at hrange
        have HRG := Lib.hid hrange
        have CN : Hid (∀ W, Sty w q l wr.heap.size o W → Calls Try.prog 25 #[.pointer (some ⟨q, 0, none⟩), .int .i64 o.m] W fun en w' => en = .returned (.int .u64 0) ∧ Sty w q l wr.heap.size o w') := Lib.hid fun W h => by
          obtain ⟨mm, hmm⟩ := Int.eq_ofNat_of_zero_le (cw_bd o.m).1
          have hc := rnum_calls W q l 2 h.rr o.m mm hmm
          rw [(tk2 l mm).1, (tk2 l mm).2.1, (tk2 l mm).2.2] at hc
          exact hc.mono fun _ _ hh => ⟨hh.1, h.step hh.2.1 hh.2.2 hq⟩
        have CV : Hid (∀ W, Sty w q l wr.heap.size o W → Calls Try.prog 23 #[.pointer (some ⟨q, 0, none⟩), .int .u64 (o.n : Int)] W fun en w' => en = .returned (.int .u64 0) ∧ Sty w q l wr.heap.size o w') := Lib.hid fun W h => by
          have hc := rvar_calls W q l 2 h.rr o.n
          rw [(cv2 l o.n).1, (cv2 l o.n).2.1, (cv2 l o.n).2.2] at hc
          exact hc.mono fun _ _ hh => ⟨hh.1, h.step hh.2.1 hh.2.2 hq⟩
        have CT : Hid (∀ W, Sty w q l wr.heap.size o W → Calls Try.prog 26 #[.pointer (some ⟨q, 0, none⟩), .int .i64 o.m] W fun en w' => ∃ A' c', en = .returned (.slice A' 0 c') ∧ Sty w q l wr.heap.size o w') := Lib.hid fun W h => by
          have hc := take_calls W q l 2 h.rr o.m o.m.toNat rfl
          rw [(tk2 l o.m.toNat).1, (tk2 l o.m.toNat).2.1, (tk2 l o.m.toNat).2.2] at hc
          refine hc.mono ?_
          rintro e W' ⟨A', n', c', rfl, ho, hr, hf⟩
          rw [own0 ho]
          exact ⟨A', c', rfl, h.step hr hf hq⟩
        have CX : Hid (∀ W, Sty w q l wr.heap.size o W → Calls Try.prog 24 #[.pointer (some ⟨q, 0, none⟩), .int .i64 o.m] W fun en w' => ∃ A' c', en = .returned (.slice A' 0 c') ∧ Sty w q l wr.heap.size o w') := Lib.hid fun W h => by
          have hc := rtext_calls W q l 2 h.rr o.m o.m.toNat rfl hok.m1
          rw [(tx2 l o.m.toNat).1, (tx2 l o.m.toNat).2.1, (tx2 l o.m.toNat).2.2] at hc
          refine hc.mono ?_
          rintro e W' ⟨A', n', c', rfl, ho, hr, hf⟩
          rw [own0 ho]
          exact ⟨A', c', rfl, h.step hr hf hq⟩
        have CE : Hid (∀ W, Sty w q l wr.heap.size o W → Calls Try.prog 21 #[.pointer (some ⟨q, 0, none⟩)] W fun en w' => en = .returned (.int .i64 2) ∧ Sty w q l wr.heap.size o w') := Lib.hid fun W h => by
          have hc := end_calls W q l 2 h.rr
          rw [show ndE l 2 = 2 from by simp [ndE]] at hc
          exact hc.mono fun _ _ hh => ⟨hh.1, h.step hh.2.1 hh.2.2 hq⟩
        have HS : Hid (∀ W, Blk W wr.heap.size X 28 → Below wr.heap.size wr W → Sty w q l wr.heap.size o W) := Lib.hid fun W hb h => ⟨hrr.below h, hX ▸ hb, below_more hbw h, by have := hrr.lt; omega⟩
        clear hX hrange ho
        by_cases h11 : 11 < t
        · have hd11 : (11 : Int) < (t : Int) := by omega
          go_wp2_with (first
          | ((with_reducible refine at_load 28 (.tmp 29) ?_); refine wpList_load_mid rfl 28 (.tmp 29) rfl b (off + t * 4) rfl X _ HRG.out Try.underlying28 rfl IX.out ?_)
          | ((with_reducible refine at_store 28 (.tmp 8) (.tmp 30) ?_); refine wpList_store_blk rfl 28 (.tmp 8) (.tmp 30) rfl wr.heap.size zerosO X 28 rfl rfl (Blk.new wr _ _) LX.out IX.out OX.out ?_; intro w2 hb2 ho2; have hP := HS.out w2 hb2 (((Below.refl _ wr).alloc (Nat.le_refl _) _).trans (ho2.below (Nat.le_refl _))); have d0 := hP.c2)
          | (go_at_call 18; refine (awake_calls _).mono ?_; rintro e' w9 ⟨rfl, hb9⟩))
          go_ret
          exact ⟨rfl, below_more hP.bel hb9⟩
        · have hd11 : ¬ (11 : Int) < (t : Int) := by omega
          go_wp2_with (first
          | ((with_reducible refine at_load 28 (.tmp 29) ?_); refine wpList_load_mid rfl 28 (.tmp 29) rfl b (off + t * 4) rfl X _ HRG.out Try.underlying28 rfl IX.out ?_)
          | ((with_reducible refine at_store 28 (.tmp 8) (.tmp 30) ?_); refine wpList_store_blk rfl 28 (.tmp 8) (.tmp 30) rfl wr.heap.size zerosO X 28 rfl rfl (Blk.new wr _ _) LX.out IX.out OX.out ?_; intro w2 hb2 ho2; have hP := HS.out w2 hb2 (((Below.refl _ wr).alloc (Nat.le_refl _) _).trans (ho2.below (Nat.le_refl _))); have d0 := hP.c2)
          | (go_at_call 25; refine (CN.out _ hP).mono ?_; rintro e' x1 ⟨rfl, hP1⟩; have d1 := hP1.c1)
          | (go_at_call 23; refine (CV.out _ hP1).mono ?_; rintro e' x2 ⟨rfl, hP2⟩; have d2 := hP2.c2)
          | (go_at_call 26; refine (CT.out _ hP2).mono ?_; rintro e' x3 ⟨A3, c3, rfl, hP3⟩; have d3 := hP3.c2)
          | (go_at_call 24; refine (CX.out _ hP3).mono ?_; rintro e' x4 ⟨A4, c4, rfl, hP4⟩)
          | (go_at_call 27; refine (left_calls _ q l 2 hP4.rr).mono ?_; rintro e' x5 ⟨rfl, rfl⟩)
          | (go_at_call 22; refine (err_calls _ q l 2 hP4.rr).mono ?_; rintro e' x6 ⟨rfl, rfl⟩)
          | (go_at_call 21; refine (CE.out _ hP4).mono ?_; rintro e' x7 ⟨rfl, hP7⟩))
          exact ⟨⟨t + 1, by omega, by omega, by go_num, hP7.rr, hP7.bel⟩, by simp [intOf]; omega⟩
      · have e : t = m := by omega
        subst e
        go_wp2_with (go_at_call 18; refine (awake_calls _).mono ?_; rintro e' w9 ⟨rfl, hb9⟩)
        go_ret
        exact ⟨rfl, below_more hbw hb9⟩

set_option maxRecDepth 100000 in
theorem lifted (os : Os) (started : os.Started) (H : Type) (enc : TypeId × Value → H) :
    ReturnsInHanded {} Try.checked os 7 .any (Rows.codecStaysSpec.pre6 enc Try.prog Try.f7 Rows.codecStaysRow.domain false) (Rows.codecStaysSpec.post enc Try.prog Try.f7 false true false false) := by
  refine returnsInHanded_of_change_sized (C := Try.checked) own started (by kernel_rfl) Try.func7
    (ChangeSpec.witness6 (enc := enc) (C := Try.checked) false ⟨#[], #[.slice none 0 0, .slice none 0 0], []⟩ 8 (by kernel_rfl) (by kernel_rfl) (by kernel_rfl) (by kernel_rfl)) ?_
  intro W base args ds gs before hval0 hW hcnd hsz0 _
  have hval : ∀ (j : Nat) t v, Try.f7.params[j]? = some t → args[j]? = some v → Value.okWide Try.prog W .any base t v := hval0
  have hW' := hW
  obtain ⟨p, q, hA0, hV, rfl, hfz, hnd⟩ := hW
  have hA : DataW.TrodAll enc Try.prog W 0 (fun _ => true) true Try.f7.params.toList args.toList ds p := hA0
  have hsz : (DataW.weightsEach Try.prog (Try.f7.params.toList ++ Rows.codecStaysSpec.plain.varTypes Try.prog) (ds ++ gs)).all (· ≤ reachBytes) = true := hsz0
  rw [Try.params7] at hA hval hsz
  obtain ⟨v0, vs0, d0, ds0, p0, q0, hargs, rfl, rfl, h0, r0⟩ := trodAll_cons hA
  obtain ⟨v1, vs1, d1, ds1, p1, q1, rfl, rfl, rfl, h1, r1⟩ := trodAll_cons r0
  obtain ⟨rfl, rfl, rfl⟩ := trodAll_nil r1
  obtain rfl : args = #[v0, v1] := by cases args; simp_all
  obtain ⟨rfl, rfl⟩ := trodVars_none hV
  obtain ⟨a0, len0, cap0, rfl⟩ := okWide_slice Try.underlying26 (hval 0 26 v0 rfl rfl)
  have k0 := h0
  have lt0 : ∀ x ∈ p0, x.block < W.heap.size := by obtain ⟨m, hm⟩ := k0; exact DataW.trod_lt m _ _ _ hm
  obtain ⟨l0, w0⟩ : ∃ l, Rd W a0 len0 l ∧ len0 ≤ cap0 ∧ cap0 ≤ maxLen ∧ len0 ≤ 140737488355328 := by
    obtain ⟨fuel, hf⟩ := h0
    rcases open_ints Try.underlying26 Try.underlying5 (by kernel_rfl) hf with ⟨hcs, _⟩ | ⟨x, l, c, zs, hcs, _, hl, hm, hz, hx, hcell, hwz⟩
    · simp [Value.cells] at hcs
      obtain ⟨rfl, rfl, rfl⟩ := hcs
      exact ⟨[], Rd.nil _ _, by omega, by unfold maxLen; omega, by omega⟩
    · simp [Value.cells] at hcs
      obtain ⟨rfl, rfl, rfl⟩ := hcs
      have hzc : zs.length = cap0 := by simpa using hz
      have hd := congrArg Prod.fst hx
      simp only at hd
      have hr := sized_slice (j := 0) (t := 26) (e := 5) (elems := lits .u8 (zs.take len0)) (spare := lits .u8 (zs.drop len0)) hsz rfl (by rw [hd]; rfl) Try.underlying26
      rw [show (Try.prog.bytesOf 5) = 1 from by kernel_rfl] at hr
      have h1 : (lits (H := H) .u8 (zs.take len0)).length = (zs.take len0).length := by simp [lits]
      rw [h1, List.length_take, hzc, Nat.min_eq_left hl] at hr
      unfold reachBytes at hr
      obtain ⟨l, hr2⟩ := rd_ints hcell hl (by simpa using hz) hwz
      exact ⟨l, hr2, hl, hm, by omega⟩
  obtain ⟨a1, len1, cap1, rfl⟩ := okWide_slice Try.underlying22 (hval 1 22 v1 rfl rfl)
  have k1 := h1
  have lt1 : ∀ x ∈ p1, x.block < W.heap.size := by obtain ⟨m, hm⟩ := k1; exact DataW.trod_lt m _ _ _ hm
  obtain ⟨l1, w1⟩ := open_ops h1
  clear hA0 hval0
  refine (walk a0 len0 cap0 l0 a1 len1 cap1 l1 W w0 w1).mono fun e W' ⟨he, bel⟩ => ?_
  subst he
  exact ⟨_, rfl, _, _, _, [], _, [], hW', trodAll_mk1 (shut_bool Try.underlying4 _), (trodAll_cons_mk (Below.trod laidOut (by kernel_rfl) (of_decide_eq_true (by kernel_rfl)) k0 bel lt0) (trodAll_cons_mk (Below.trod laidOut (by kernel_rfl) (of_decide_eq_true (by kernel_rfl)) k1 bel lt1) trodAll_mk0)), rfl, bel.frame _, fun h => by cases h⟩

theorem over : Rows.codecStaysRow.holds Try.pinned (OpenSpec.ofChange Rows.codecStaysSpec) :=
  OpenClaim.holds_of_wide 7 Try.f7 rfl rfl rfl rfl rfl rfl rfl ⟨rfl, rfl, rfl, rfl, rfl⟩ rfl rfl rfl rfl rfl (by kernel_rfl) Try.func7 (by kernel_rfl)
    (of_decide_eq_true (by kernel_rfl)) (by unfold Func.isWrapper; first | (rw [if_pos (by decide +kernel)]; kernel_rfl) | (rw [if_neg (by decide +kernel)]; exact ⟨rfl, rfl⟩))
    (fun os started H enc _ => lifted os started H enc)

theorem proved : Rows.CodecStaysSaid := over
end Go.Proofs.Ytgdpcgjdljfdbaa.codecStays
