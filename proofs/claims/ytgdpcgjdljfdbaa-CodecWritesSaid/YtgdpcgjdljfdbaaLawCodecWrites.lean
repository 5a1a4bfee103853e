/- Proved: for every list of parts: the bytes that a writer holds behind each part, and their number, are what the document says; of the parts the first 30 are looked at, and none behind one of more than 300 bytes. The argument reads as it did. No condition. -/
import Derived.Test.YtgdpcgjdljfdbaaRows
import Derived.Test.YtgdpcgjdljfdbaaCodN
import Derived.Test.YtgdpcgjdljfdbaaCodO
import Derived.Laws.BitsAllLaws
import Derived.Deep.RegionHeld3
import Derived.Deep.CutRange
import Derived.Deep.DeepCutAuto
import Derived.ProofKit
import Derived.OpenShut
import Derived.ShutString
import Derived.ChangeOld
import Derived.Test.YtgdpcgjdljfdbaaOpen
namespace Go.Proofs.Ytgdpcgjdljfdbaa.codecWrites
open Go.ChangeShapes Go.WideShapes Go.ChangeAt Go.RowKit
open Go.ChangeMaps (open_string shut_string)
set_option linter.unusedVariables false
set_option linter.unusedSimpArgs false

theorem own : ownKnob Try.prog.godebug = none := by kernel_rfl
theorem laidOut : laidOutB Try.prog = true := by kernel_rfl

theorem nat_mask2 (x : Nat) : x &&& 3 = x % 4 := Nat.and_two_pow_sub_one_eq_mod x 2
theorem and3 (k : Int) : bits .and .i64 k 3 = k % 4 := by
  show IntKind.i64.wrap ((BitVec.ofInt 64 k &&& BitVec.ofInt 64 3).toNat : Int) = _
  rw [BitVec.toNat_and, BitVec.toNat_ofInt, show (BitVec.ofInt 64 3).toNat = 3 from by decide, nat_mask2, IntKind.wrap_i64]
  omega
/-- What holds in a round: the writer holds V, the part lies in its block, and what was there still stands. -/
structure Wty (w : World) (p g : Nat) (o : Op4) (A : Option Addr) (c : Nat) (V : List UInt8) (W : World) : Prop where
  wr : Wr W p A c V
  blk : Blk W g o.cells 28
  bel : Below w.heap.size w W
  new : ∀ i, WS p A i → w.heap.size ≤ i
  ne : ¬ WS p A g
  ok : o.ok w
theorem Wty.c0 {w : World} {p g : Nat} {o : Op4} {A : Option Addr} {c : Nat} {V : List UInt8} {W : World} (h : Wty w p g o A c V W) : W.cell? ⟨g, 0, none⟩ = some (.int .i64 o.k) := h.blk.cell 0
theorem Wty.c1 {w : World} {p g : Nat} {o : Op4} {A : Option Addr} {c : Nat} {V : List UInt8} {W : World} (h : Wty w p g o A c V W) : W.cell? ⟨g, 1, none⟩ = some (.int .u64 (o.n : Int)) := h.blk.cell 1
theorem Wty.c2 {w : World} {p g : Nat} {o : Op4} {A : Option Addr} {c : Nat} {V : List UInt8} {W : World} (h : Wty w p g o A c V W) : W.cell? ⟨g, 2, none⟩ = some (.int .i64 o.m) := h.blk.cell 2
theorem Wty.c3 {w : World} {p g : Nat} {o : Op4} {A : Option Addr} {c : Nat} {V : List UInt8} {W : World} (h : Wty w p g o A c V W) : W.cell? ⟨g, 3, none⟩ = some (.slice o.A o.len o.cap) := h.blk.cell 3
theorem Wty.below {w : World} {p g : Nat} {o : Op4} {A : Option Addr} {c : Nat} {V : List UInt8} {W W' : World} (h : Wty w p g o A c V W) (hb : Below W.heap.size W W') : Wty w p g o A c V W' :=
  ⟨h.wr.below hb, h.blk.below hb h.blk.lt, below_more h.bel hb, h.new, h.ne, h.ok⟩
theorem Wty.step {w : World} {p g : Nat} {o : Op4} {A : Option Addr} {c : Nat} {V V' : List UInt8} {W W' : World} (h : Wty w p g o A c V W) (ht : Wto W p A V' W') : ∃ A' c', Wty w p g o A' c' V' W' := by
  obtain ⟨A', c', h1, h2, h3⟩ := ht
  refine ⟨A', c', h1, h2.blk h.blk h.ne, below_frm h.bel h2 h.new, ws_on h.new h3 h.bel.size, fun e => ?_, h.ok⟩
  rcases ws_turn h3 g e with h4 | h4
  · exact h.ne h4
  · have := h.blk.lt; omega
theorem Wty.rdf {w : World} {p g : Nat} {o : Op4} {A : Option Addr} {c : Nat} {V : List UInt8} {W : World} (h : Wty w p g o A c V W) : RdF W (WS p A) o.A o.len o.l := RdF.old h.ok.rd h.bel h.new
theorem Wty.cv {w : World} {p g : Nat} {o : Op4} {A : Option Addr} {c : Nat} {V : List UInt8} {W : World} (h : Wty w p g o A c V W) : (convert 26 9 (.slice o.A o.len o.cap)).run Try.prog W = .ok (.string ⟨o.l.toArray⟩) W := conv8 W _ _ _ _ (h.ok.rd.below h.bel)

/-- What the loop knows ahead of a round. -/
structure Rel (w : World) (p t : Nat) (s : ByteArray) (A : Option Addr) (c : Nat) (V : List UInt8) (W0 : World) : Prop where
  wr : Wr W0 p A c V
  bel : Below w.heap.size w W0
  new : ∀ i, WS p A i → w.heap.size ≤ i
  str : s = ⟨V.toArray⟩
  len : V.length ≤ 700 * t
theorem Rel.next {w : World} {p t g : Nat} {o : Op4} {A A3 : Option Addr} {c c3 : Nat} {V Y : List UInt8} {s s2 : ByteArray} {wr W : World} (h : Rel w p t s A c V wr) (hW : Wty w p g o A3 c3 (V ++ Y) W) (hs : s2 = ⟨(V ++ Y).toArray⟩) (hY : Y.length ≤ 700) : Rel w p (t + 1) s2 A3 c3 (V ++ Y) W :=
  ⟨hW.wr, hW.bel, hW.new, hs, by have := h.len; rw [List.length_append]; omega⟩
theorem put0 {w : World} {p g : Nat} {o : Op4} {A : Option Addr} {c : Nat} {V : List UInt8} {W : World} (h : Wty w p g o A c V W) (hV : V.length ≤ 100000) {Y : List UInt8} {mm : Nat} (hm : cw o.m = mm) (hY : Y = little o.n mm) : Calls Try.prog 9 #[.pointer (some ⟨p, 0, none⟩), .int .u64 (o.n : Int), .int .i64 o.m] W (fun e w' => e = .returned (.tuple #[]) ∧ ∃ A' c', Wty w p g o A' c' (V ++ Y) w') := by
  rw [hY]
  exact (wnum_calls W p A c V h.wr o.n o.m mm hm (by omega)).mono fun _ _ hh => ⟨hh.1, h.step hh.2⟩
theorem put1 {w : World} {p g : Nat} {o : Op4} {A : Option Addr} {c : Nat} {V : List UInt8} {W : World} (h : Wty w p g o A c V W) (hV : V.length ≤ 100000) {Y : List UInt8} (hY : Y = cnt o.n) : Calls Try.prog 11 #[.pointer (some ⟨p, 0, none⟩), .int .u64 (o.n : Int)] W (fun e w' => e = .returned (.tuple #[]) ∧ ∃ A' c', Wty w p g o A' c' (V ++ Y) w') := by
  rw [hY]
  exact (wvar_calls W p A c V h.wr o.n (by omega)).mono fun _ _ hh => ⟨hh.1, h.step hh.2⟩
theorem put2 {w : World} {p g : Nat} {o : Op4} {A : Option Addr} {c : Nat} {V : List UInt8} {W : World} (h : Wty w p g o A c V W) (hV : V.length ≤ 100000) (ho : o.len ≤ 300) {Y : List UInt8} (hY : Y = o.l ++ o.l) : Calls Try.prog 13 #[.pointer (some ⟨p, 0, none⟩), .slice (some ⟨W.heap.size, 0, none⟩) 3 3] (W.alloc (.cells #[.slice o.A o.len o.cap, .slice none 0 0, .slice o.A o.len o.cap] 26)) (fun e w' => e = .returned (.tuple #[]) ∧ ∃ A' c', Wty w p g o A' c' (V ++ Y) w') := by
  have hX := rdlf3 W (WS p A) W.heap.size rfl h.wr.lt o.A none o.A o.len o.cap 0 0 o.len o.cap o.l [] o.l h.rdf (RdF.nil _ _ _) h.rdf 26
  have h2 := h.below (below_al (Below.refl _ W) (.cells #[.slice o.A o.len o.cap, .slice none 0 0, .slice o.A o.len o.cap] 26))
  have hl := h.ok.rd.len
  have hc := put_calls _ p A c V h2.wr _ 3 3 _ hX (by omega) (by simp; omega)
  rw [hY, show o.l ++ o.l = [o.l, [], o.l].flatten from by simp]
  exact hc.mono fun _ _ hh => ⟨hh.1, h2.step hh.2⟩
theorem put3 {w : World} {p g : Nat} {o : Op4} {A : Option Addr} {c : Nat} {V : List UInt8} {W : World} (h : Wty w p g o A c V W) (hV : V.length ≤ 100000) (ho : o.len ≤ 300) {Y : List UInt8} (hY : Y = cnt o.len ++ o.l) : Calls Try.prog 14 #[.pointer (some ⟨p, 0, none⟩), .slice o.A o.len o.cap] W (fun e w' => e = .returned (.tuple #[]) ∧ ∃ A' c', Wty w p g o A' c' (V ++ Y) w') := by
  rw [hY]
  exact (wtext_calls W p A c V h.wr o.A o.len o.cap o.l h.rdf (by omega) (by omega)).mono fun _ _ hh => ⟨hh.1, h.step hh.2⟩
set_option maxRecDepth 100000 in
set_option maxHeartbeats 8000000 in
theorem walk (B : Option Addr) (m k : Nat) (P : List Op4) (w : World) (w1 : RdO w B m P ∧ m ≤ k ∧ k ≤ maxLen) :
    Calls Try.prog 3 #[.slice B m k] w (Ret w (.bool true)) := by
  obtain ⟨hP, hmk, hkm⟩ := w1
  unfold maxLen at hkm
  have HP := Lib.hid hP
  clear hP
  go_enter Try.func3, Try.ntmps3
  go_wp2_with fail
  refine (new_calls _).mono ?_
  rintro e' w1 ⟨p, rfl, hp, hw1, hb1⟩
  have hR0 : Rel w p 0 ⟨#[]⟩ none 0 [] w1 := ⟨hw1, hb1, ws_new (by omega), rfl, by simp⟩
  clear hw1 hb1 hp
  go_wp2
  go_loopw [4, 12] (fun v i wr => ∃ (t : Nat) (s : ByteArray) (A' : Option Addr) (c' : Nat) (V : List UInt8), t ≤ m ∧ t ≤ 30 ∧ i = .int .i64 t ∧ v = .string s ∧ Rel w p t s A' c' V wr) (fun _ i _ => m - (intOf i).toNat)
  case atStart => exact ⟨0, _, none, 0, [], Nat.zero_le _, by omega, rfl, rfl, hR0⟩
  case round =>
    obtain ⟨t, s, A', c', V, ht, ht30, rfl, rfl, hRel⟩ := hrel
    clear hR0
    have hVl : V.length ≤ 100000 := by have := hRel.len; omega
    have HY : Hid (∀ W, Below wr.heap.size wr W → Calls Try.prog 17 #[.pointer (some ⟨p, 0, none⟩)] W fun e W' => ∃ A1 n1 c1, e = .returned (.slice A1 n1 c1) ∧ (convert 26 9 (.slice A1 n1 c1)).run Try.prog W' = .ok (.string s) W' ∧ Below w.heap.size w W') := Lib.hid fun W h => by
        refine (wbytes_calls W p A' c' V (hRel.wr.below h) (by omega)).mono ?_
        rintro e W' ⟨A1, n1, c1, rfl, ho, hb⟩
        exact ⟨A1, n1, c1, rfl, by rw [hRel.str]; exact conv8 W' A1 n1 c1 _ ho.rd, below_more (below_more hRel.bel h) hb⟩
    have hbw := hRel.bel
    by_cases hlt : t < m
    · obtain ⟨b, off, hlP, rfl, hrange, hok⟩ := HP.out.at_ hbw (k := t) hlt
      obtain ⟨o, ho⟩ : ∃ o, o = P[t] := ⟨_, rfl⟩
      rw [← ho] at hrange hok
      obtain ⟨X, hX⟩ : ∃ X, X = o.cells := ⟨_, rfl⟩
      have IX : Hid ((Try.prog.info? 28).map (·.size) = some X.length) := Lib.hid (by rw [hX]; exact o.size)
      have LX : Hid (zerosO.length = X.length) := Lib.hid (by rw [hX]; rfl)
      have OX : Hid (∀ v ∈ X, v.oneCell' = true) := Lib.hid (by rw [hX]; exact o.one)
      rw [← hX] at hrange
      have HRG := Lib.hid hrange
      have HS : Hid (∀ W, Blk W wr.heap.size X 28 → Below wr.heap.size wr W → Wty w p wr.heap.size o A' c' V W) := Lib.hid fun W hb h => ⟨hRel.wr.below h, hX ▸ hb, below_more hbw h, hRel.new, fun e => by have := hRel.wr.lt _ e; omega, hok⟩
      have HRel := Lib.hid hRel
      have hstr := hRel.str
      have hol := hok.rd.len
      have hlm := hok.cap
      have hmx := hok.max
      unfold maxLen at hmx
      clear hX hrange ho hRel
      by_cases h29 : 29 < t
      · have hd29 : (29 : Int) < (t : Int) := by omega
        clear hstr
        go_wp2_with (first
        | ((with_reducible refine at_load 28 (.tmp 15) ?_); refine wpList_load_mid rfl 28 (.tmp 15) rfl b (off + t * 4) rfl X _ HRG.out Try.underlying28 rfl IX.out ?_)
        | ((with_reducible refine at_store 28 (.tmp 6) (.tmp 16) ?_); refine wpList_store_blk rfl 28 (.tmp 6) (.tmp 16) rfl wr.heap.size zerosO X 28 rfl rfl (Blk.new wr _ _) LX.out IX.out OX.out ?_; intro w2 hb2 ho2; have hP := HS.out w2 hb2 (((Below.refl _ wr).alloc (Nat.le_refl _) _).trans (ho2.below (Nat.le_refl _))); have HBW : Below wr.heap.size wr w2 := (((Below.refl _ wr).alloc (Nat.le_refl _) _).trans (ho2.below (Nat.le_refl _))); have d0 := hP.c0; have d1 := hP.c1; have d2 := hP.c2; have d3 := hP.c3)
        | (go_at_call 17; refine (HY.out _ HBW).mono ?_; rintro e' x8 ⟨A8, n8, c8, rfl, hcv, hb8⟩)
        | (go_at_call 18; refine (awake_calls _).mono ?_; rintro e' x9 ⟨rfl, hb9⟩))
        go_ret
        exact ⟨rfl, below_more hb8 hb9⟩
      · have hd29 : ¬ (29 : Int) < (t : Int) := by omega
        by_cases hlen : 300 < o.len
        · have hd3 : (300 : Int) < (o.len : Int) := by omega
          clear hstr
          go_wp2_with (first
          | ((with_reducible refine at_load 28 (.tmp 15) ?_); refine wpList_load_mid rfl 28 (.tmp 15) rfl b (off + t * 4) rfl X _ HRG.out Try.underlying28 rfl IX.out ?_)
          | ((with_reducible refine at_store 28 (.tmp 6) (.tmp 16) ?_); refine wpList_store_blk rfl 28 (.tmp 6) (.tmp 16) rfl wr.heap.size zerosO X 28 rfl rfl (Blk.new wr _ _) LX.out IX.out OX.out ?_; intro w2 hb2 ho2; have hP := HS.out w2 hb2 (((Below.refl _ wr).alloc (Nat.le_refl _) _).trans (ho2.below (Nat.le_refl _))); have HBW : Below wr.heap.size wr w2 := (((Below.refl _ wr).alloc (Nat.le_refl _) _).trans (ho2.below (Nat.le_refl _))); have d0 := hP.c0; have d1 := hP.c1; have d2 := hP.c2; have d3 := hP.c3)
          | (go_at_call 17; refine (HY.out _ HBW).mono ?_; rintro e' x8 ⟨A8, n8, c8, rfl, hcv, hb8⟩)
          | (go_at_call 18; refine (awake_calls _).mono ?_; rintro e' x9 ⟨rfl, hb9⟩))
          go_ret
          exact ⟨rfl, below_more hb8 hb9⟩
        · have hd3 : ¬ (300 : Int) < (o.len : Int) := by omega
          replace hlen : o.len ≤ 300 := by omega
          clear HY
          obtain ⟨mm, hmm⟩ := Int.eq_ofNat_of_zero_le (cw_bd o.m).1
          have hmm8 : mm ≤ 8 := by have := cw_bd o.m; omega
          have hk4 : o.k % 4 = 0 ∨ o.k % 4 = 1 ∨ o.k % 4 = 2 ∨ o.k % 4 = 3 := by omega
          rcases hk4 with hk | hk | hk | hk
          · have hand : bits .and .i64 o.k 3 = 0 := by rw [and3, hk]
            clear hk
            ·
              obtain ⟨Y, hY⟩ : ∃ Y, Y = little o.n mm := ⟨_, rfl⟩
              have hYl : Y.length ≤ 700 := by rw [hY]; rw [little_len]; omega
              obtain ⟨s2, hs2⟩ : ∃ s2 : ByteArray, s2 = ⟨(V ++ Y).toArray⟩ := ⟨_, rfl⟩
              obtain ⟨N2, hN2⟩ : ∃ N2, N2 = (V ++ Y).length := ⟨_, rfl⟩
              have hsz2 : s2.size = N2 := by rw [hs2, hN2]; exact bstr_size _
              have CL : Hid (∀ W A3 c3, Wty w p wr.heap.size o A3 c3 (V ++ Y) W → Calls Try.prog 16 #[.pointer (some ⟨p, 0, none⟩)] W fun en w' => en = .returned (.int .i64 (N2 : Int)) ∧ W = w') := Lib.hid fun W A3 c3 h => by rw [hN2]; exact wlen_calls W p A3 c3 _ h.wr
              have CW : Hid (∀ W, Wty w p wr.heap.size o A' c' V W → Calls Try.prog 9 #[.pointer (some ⟨p, 0, none⟩), .int .u64 (o.n : Int), .int .i64 o.m] W fun e w' => e = .returned (.tuple #[]) ∧ ∃ A3 c3, Wty w p wr.heap.size o A3 c3 (V ++ Y) w') := Lib.hid fun W h => put0 h hVl hmm hY
              obtain ⟨sy, hsy⟩ : ∃ sy : ByteArray, sy = ⟨Y.toArray⟩ := ⟨_, rfl⟩
              have CD : Hid (∀ W, Calls Try.prog 10 #[.int .u64 (o.n : Int), .int .i64 o.m] W (Ret W (.string sy))) := Lib.hid fun W => by rw [hsy, hY]; exact nnum_calls o.n o.m mm hmm hok.n1 W
              have hadd : ∀ W, (Op.stringOp .add s sy).run Try.prog W = .ok (.string s2) W := fun W => by rw [hstr, hsy, hs2]; exact bstr_add V Y (by omega) (by omega) W
              have HRN : Hid (∀ W A3 c3, Wty w p wr.heap.size o A3 c3 (V ++ Y) W → Rel w p (t + 1) s2 A3 c3 (V ++ Y) W) := Lib.hid fun W A3 c3 h => HRel.out.next h hs2 hYl
              clear hY hsy hs2 hN2 hstr
              go_wp2_with (first
              | ((with_reducible refine at_load 28 (.tmp 15) ?_); refine wpList_load_mid rfl 28 (.tmp 15) rfl b (off + t * 4) rfl X _ HRG.out Try.underlying28 rfl IX.out ?_)
              | ((with_reducible refine at_store 28 (.tmp 6) (.tmp 16) ?_); refine wpList_store_blk rfl 28 (.tmp 6) (.tmp 16) rfl wr.heap.size zerosO X 28 rfl rfl (Blk.new wr _ _) LX.out IX.out OX.out ?_; intro w2 hb2 ho2; have hP := HS.out w2 hb2 (((Below.refl _ wr).alloc (Nat.le_refl _) _).trans (ho2.below (Nat.le_refl _))); have d0 := hP.c0; have d1 := hP.c1; have d2 := hP.c2; have d3 := hP.c3)
              | (go_at_call 9; refine (CW.out _ hP).mono ?_; rintro e' x1 ⟨rfl, A3, c3, hQ⟩; have f1 := hQ.c1; have f2 := hQ.c2; have f3 := hQ.c3)
              | (go_at_call 10; refine (CD.out _).mono ?_; rintro e' x2 ⟨rfl, hb3⟩; have hR := hQ.below hb3)
              | (go_at_call 16; refine (CL.out _ _ _ hR).mono ?_; rintro e' x3 ⟨rfl, rfl⟩))
              exact ⟨⟨t + 1, s2, A3, c3, V ++ Y, by omega, by omega, by go_num, rfl, HRN.out _ _ _ hR⟩, by simp [intOf]; omega⟩
          · have hand : bits .and .i64 o.k 3 = 1 := by rw [and3, hk]
            clear hk
            ·
              obtain ⟨Y, hY⟩ : ∃ Y, Y = cnt o.n := ⟨_, rfl⟩
              have hYl : Y.length ≤ 700 := by rw [hY]; rw [cnt_len]; have := more_le o.n; omega
              obtain ⟨s2, hs2⟩ : ∃ s2 : ByteArray, s2 = ⟨(V ++ Y).toArray⟩ := ⟨_, rfl⟩
              obtain ⟨N2, hN2⟩ : ∃ N2, N2 = (V ++ Y).length := ⟨_, rfl⟩
              have hsz2 : s2.size = N2 := by rw [hs2, hN2]; exact bstr_size _
              have CL : Hid (∀ W A3 c3, Wty w p wr.heap.size o A3 c3 (V ++ Y) W → Calls Try.prog 16 #[.pointer (some ⟨p, 0, none⟩)] W fun en w' => en = .returned (.int .i64 (N2 : Int)) ∧ W = w') := Lib.hid fun W A3 c3 h => by rw [hN2]; exact wlen_calls W p A3 c3 _ h.wr
              have CW : Hid (∀ W, Wty w p wr.heap.size o A' c' V W → Calls Try.prog 11 #[.pointer (some ⟨p, 0, none⟩), .int .u64 (o.n : Int)] W fun e w' => e = .returned (.tuple #[]) ∧ ∃ A3 c3, Wty w p wr.heap.size o A3 c3 (V ++ Y) w') := Lib.hid fun W h => put1 h hVl hY
              obtain ⟨sy, hsy⟩ : ∃ sy : ByteArray, sy = ⟨Y.toArray⟩ := ⟨_, rfl⟩
              have CD : Hid (∀ W, Calls Try.prog 12 #[.int .u64 (o.n : Int)] W (Ret W (.string sy))) := Lib.hid fun W => by rw [hsy, hY]; exact nvar_calls o.n hok.n1 W
              have hadd : ∀ W, (Op.stringOp .add s sy).run Try.prog W = .ok (.string s2) W := fun W => by rw [hstr, hsy, hs2]; exact bstr_add V Y (by omega) (by omega) W
              have HRN : Hid (∀ W A3 c3, Wty w p wr.heap.size o A3 c3 (V ++ Y) W → Rel w p (t + 1) s2 A3 c3 (V ++ Y) W) := Lib.hid fun W A3 c3 h => HRel.out.next h hs2 hYl
              clear hY hsy hs2 hN2 hstr
              go_wp2_with (first
              | ((with_reducible refine at_load 28 (.tmp 15) ?_); refine wpList_load_mid rfl 28 (.tmp 15) rfl b (off + t * 4) rfl X _ HRG.out Try.underlying28 rfl IX.out ?_)
              | ((with_reducible refine at_store 28 (.tmp 6) (.tmp 16) ?_); refine wpList_store_blk rfl 28 (.tmp 6) (.tmp 16) rfl wr.heap.size zerosO X 28 rfl rfl (Blk.new wr _ _) LX.out IX.out OX.out ?_; intro w2 hb2 ho2; have hP := HS.out w2 hb2 (((Below.refl _ wr).alloc (Nat.le_refl _) _).trans (ho2.below (Nat.le_refl _))); have d0 := hP.c0; have d1 := hP.c1; have d2 := hP.c2; have d3 := hP.c3)
              | (go_at_call 11; refine (CW.out _ hP).mono ?_; rintro e' x1 ⟨rfl, A3, c3, hQ⟩; have f1 := hQ.c1; have f2 := hQ.c2; have f3 := hQ.c3)
              | (go_at_call 12; refine (CD.out _).mono ?_; rintro e' x2 ⟨rfl, hb3⟩; have hR := hQ.below hb3)
              | (go_at_call 16; refine (CL.out _ _ _ hR).mono ?_; rintro e' x3 ⟨rfl, rfl⟩))
              exact ⟨⟨t + 1, s2, A3, c3, V ++ Y, by omega, by omega, by go_num, rfl, HRN.out _ _ _ hR⟩, by simp [intOf]; omega⟩
          · have hand : bits .and .i64 o.k 3 = 2 := by rw [and3, hk]
            clear hk
            ·
              obtain ⟨Y, hY⟩ : ∃ Y, Y = o.l ++ o.l := ⟨_, rfl⟩
              have hYl : Y.length ≤ 700 := by rw [hY]; rw [List.length_append, hol]; omega
              obtain ⟨s2, hs2⟩ : ∃ s2 : ByteArray, s2 = ⟨(V ++ Y).toArray⟩ := ⟨_, rfl⟩
              obtain ⟨N2, hN2⟩ : ∃ N2, N2 = (V ++ Y).length := ⟨_, rfl⟩
              have hsz2 : s2.size = N2 := by rw [hs2, hN2]; exact bstr_size _
              have CL : Hid (∀ W A3 c3, Wty w p wr.heap.size o A3 c3 (V ++ Y) W → Calls Try.prog 16 #[.pointer (some ⟨p, 0, none⟩)] W fun en w' => en = .returned (.int .i64 (N2 : Int)) ∧ W = w') := Lib.hid fun W A3 c3 h => by rw [hN2]; exact wlen_calls W p A3 c3 _ h.wr
              obtain ⟨so, hso⟩ : ∃ so : ByteArray, so = ⟨o.l.toArray⟩ := ⟨_, rfl⟩
              obtain ⟨sy, hsy⟩ : ∃ sy : ByteArray, sy = ⟨Y.toArray⟩ := ⟨_, rfl⟩
              have CW : Hid (∀ W, Wty w p wr.heap.size o A' c' V W → Calls Try.prog 13 #[.pointer (some ⟨p, 0, none⟩), .slice (some ⟨W.heap.size, 0, none⟩) 3 3] (W.alloc (.cells #[.slice o.A o.len o.cap, .slice none 0 0, .slice o.A o.len o.cap] 26)) fun e w' => e = .returned (.tuple #[]) ∧ ∃ A3 c3, Wty w p wr.heap.size o A3 c3 (V ++ Y) w') := Lib.hid fun W h => put2 h hVl hlen hY
              have CC : Hid (∀ W A3 c3, Wty w p wr.heap.size o A3 c3 (V ++ Y) W → (convert 26 9 (.slice o.A o.len o.cap)).run Try.prog W = .ok (.string so) W) := Lib.hid fun W A3 c3 h => by rw [hso]; exact h.cv
              have hadd1 : ∀ W, (Op.stringOp .add so so).run Try.prog W = .ok (.string sy) W := fun W => by rw [hso, hsy, hY]; exact bstr_add o.l o.l (by omega) (by omega) W
              have hadd : ∀ W, (Op.stringOp .add s sy).run Try.prog W = .ok (.string s2) W := fun W => by rw [hstr, hsy, hs2]; exact bstr_add V Y (by omega) (by omega) W
              have HRN : Hid (∀ W A3 c3, Wty w p wr.heap.size o A3 c3 (V ++ Y) W → Rel w p (t + 1) s2 A3 c3 (V ++ Y) W) := Lib.hid fun W A3 c3 h => HRel.out.next h hs2 hYl
              clear hY hsy hs2 hN2 hso hstr
              go_wp2_with (first
              | ((with_reducible refine at_load 28 (.tmp 15) ?_); refine wpList_load_mid rfl 28 (.tmp 15) rfl b (off + t * 4) rfl X _ HRG.out Try.underlying28 rfl IX.out ?_)
              | ((with_reducible refine at_store 28 (.tmp 6) (.tmp 16) ?_); refine wpList_store_blk rfl 28 (.tmp 6) (.tmp 16) rfl wr.heap.size zerosO X 28 rfl rfl (Blk.new wr _ _) LX.out IX.out OX.out ?_; intro w2 hb2 ho2; have hP := HS.out w2 hb2 (((Below.refl _ wr).alloc (Nat.le_refl _) _).trans (ho2.below (Nat.le_refl _))); have d0 := hP.c0; have d1 := hP.c1; have d2 := hP.c2; have d3 := hP.c3)
              | (go_at_call 13; refine (CW.out _ hP).mono ?_; rintro e' x1 ⟨rfl, A3, c3, hQ⟩; have f1 := hQ.c1; have f2 := hQ.c2; have f3 := hQ.c3; have f4 := CC.out _ _ _ hQ; have hR := hQ)
              | (go_at_call 16; refine (CL.out _ _ _ hR).mono ?_; rintro e' x3 ⟨rfl, rfl⟩))
              exact ⟨⟨t + 1, s2, A3, c3, V ++ Y, by omega, by omega, by go_num, rfl, HRN.out _ _ _ hR⟩, by simp [intOf]; omega⟩
          · have hand : bits .and .i64 o.k 3 = 3 := by rw [and3, hk]
            clear hk
            ·
              obtain ⟨Y, hY⟩ : ∃ Y, Y = cnt o.len ++ o.l := ⟨_, rfl⟩
              have hYl : Y.length ≤ 700 := by rw [hY]; rw [List.length_append, cnt_len, hol]; have := more_le o.len; omega
              obtain ⟨s2, hs2⟩ : ∃ s2 : ByteArray, s2 = ⟨(V ++ Y).toArray⟩ := ⟨_, rfl⟩
              obtain ⟨N2, hN2⟩ : ∃ N2, N2 = (V ++ Y).length := ⟨_, rfl⟩
              have hsz2 : s2.size = N2 := by rw [hs2, hN2]; exact bstr_size _
              have CL : Hid (∀ W A3 c3, Wty w p wr.heap.size o A3 c3 (V ++ Y) W → Calls Try.prog 16 #[.pointer (some ⟨p, 0, none⟩)] W fun en w' => en = .returned (.int .i64 (N2 : Int)) ∧ W = w') := Lib.hid fun W A3 c3 h => by rw [hN2]; exact wlen_calls W p A3 c3 _ h.wr
              obtain ⟨so, hso⟩ : ∃ so : ByteArray, so = ⟨o.l.toArray⟩ := ⟨_, rfl⟩
              obtain ⟨sy, hsy⟩ : ∃ sy : ByteArray, sy = ⟨Y.toArray⟩ := ⟨_, rfl⟩
              have CW : Hid (∀ W, Wty w p wr.heap.size o A' c' V W → Calls Try.prog 14 #[.pointer (some ⟨p, 0, none⟩), .slice o.A o.len o.cap] W fun e w' => e = .returned (.tuple #[]) ∧ ∃ A3 c3, Wty w p wr.heap.size o A3 c3 (V ++ Y) w') := Lib.hid fun W h => put3 h hVl hlen hY
              have CC : Hid (∀ W A3 c3, Wty w p wr.heap.size o A3 c3 (V ++ Y) W → (convert 26 9 (.slice o.A o.len o.cap)).run Try.prog W = .ok (.string so) W) := Lib.hid fun W A3 c3 h => by rw [hso]; exact h.cv
              have CD : Hid (∀ W, Calls Try.prog 15 #[.string so] W (Ret W (.string sy))) := Lib.hid fun W => by rw [hsy, hY, hso, ← hol]; exact ntext_calls o.l (by omega) W
              have hadd : ∀ W, (Op.stringOp .add s sy).run Try.prog W = .ok (.string s2) W := fun W => by rw [hstr, hsy, hs2]; exact bstr_add V Y (by omega) (by omega) W
              have HRN : Hid (∀ W A3 c3, Wty w p wr.heap.size o A3 c3 (V ++ Y) W → Rel w p (t + 1) s2 A3 c3 (V ++ Y) W) := Lib.hid fun W A3 c3 h => HRel.out.next h hs2 hYl
              clear hY hsy hs2 hN2 hso hstr
              go_wp2_with (first
              | ((with_reducible refine at_load 28 (.tmp 15) ?_); refine wpList_load_mid rfl 28 (.tmp 15) rfl b (off + t * 4) rfl X _ HRG.out Try.underlying28 rfl IX.out ?_)
              | ((with_reducible refine at_store 28 (.tmp 6) (.tmp 16) ?_); refine wpList_store_blk rfl 28 (.tmp 6) (.tmp 16) rfl wr.heap.size zerosO X 28 rfl rfl (Blk.new wr _ _) LX.out IX.out OX.out ?_; intro w2 hb2 ho2; have hP := HS.out w2 hb2 (((Below.refl _ wr).alloc (Nat.le_refl _) _).trans (ho2.below (Nat.le_refl _))); have d0 := hP.c0; have d1 := hP.c1; have d2 := hP.c2; have d3 := hP.c3)
              | (go_at_call 14; refine (CW.out _ hP).mono ?_; rintro e' x1 ⟨rfl, A3, c3, hQ⟩; have f1 := hQ.c1; have f2 := hQ.c2; have f3 := hQ.c3; have f4 := CC.out _ _ _ hQ)
              | (go_at_call 15; refine (CD.out _).mono ?_; rintro e' x2 ⟨rfl, hb3⟩; have hR := hQ.below hb3)
              | (go_at_call 16; refine (CL.out _ _ _ hR).mono ?_; rintro e' x3 ⟨rfl, rfl⟩))
              exact ⟨⟨t + 1, s2, A3, c3, V ++ Y, by omega, by omega, by go_num, rfl, HRN.out _ _ _ hR⟩, by simp [intOf]; omega⟩
    · have e : t = m := by omega
      subst e
      have HBW := Below.refl wr.heap.size wr
      clear hRel
      go_wp2_with (first
      | (go_at_call 17; refine (HY.out _ HBW).mono ?_; rintro e' x8 ⟨A8, n8, c8, rfl, hcv, hb8⟩)
      | (go_at_call 18; refine (awake_calls _).mono ?_; rintro e' x9 ⟨rfl, hb9⟩))
      go_ret
      exact ⟨rfl, below_more hb8 hb9⟩

set_option maxRecDepth 100000 in
theorem lifted (os : Os) (started : os.Started) (H : Type) (enc : TypeId × Value → H) :
    ReturnsInHanded {} Try.checked os 3 .any (Rows.codecWritesSpec.pre6 enc Try.prog Try.f3 Rows.codecWritesRow.domain false) (Rows.codecWritesSpec.post enc Try.prog Try.f3 false true false false) := by
  refine returnsInHanded_of_change (C := Try.checked) own started (by kernel_rfl) Try.func3
    (ChangeSpec.witness6 (enc := enc) (C := Try.checked) false ⟨#[], #[.slice none 0 0], []⟩ 8 (by kernel_rfl) (by kernel_rfl) (by kernel_rfl) (by kernel_rfl)) ?_
  intro W base args ds gs before hval0 hW hcnd _
  have hval : ∀ (j : Nat) t v, Try.f3.params[j]? = some t → args[j]? = some v → Value.okWide Try.prog W .any base t v := hval0
  have hW' := hW
  obtain ⟨p, q, hA0, hV, rfl, hfz, hnd⟩ := hW
  have hA : DataW.TrodAll enc Try.prog W 0 (fun _ => true) true Try.f3.params.toList args.toList ds p := hA0
  rw [Try.params3] at hA hval
  obtain ⟨v0, vs0, d0, ds0, p0, q0, hargs, rfl, rfl, h0, r0⟩ := trodAll_cons hA
  obtain ⟨rfl, rfl, rfl⟩ := trodAll_nil r0
  obtain rfl : args = #[v0] := by cases args; simp_all
  obtain ⟨rfl, rfl⟩ := trodVars_none hV
  obtain ⟨a0, len0, cap0, rfl⟩ := okWide_slice Try.underlying22 (hval 0 22 v0 rfl rfl)
  have k0 := h0
  have lt0 : ∀ x ∈ p0, x.block < W.heap.size := by obtain ⟨m, hm⟩ := k0; exact DataW.trod_lt m _ _ _ hm
  obtain ⟨l0, w0⟩ := open_ops h0
  clear hA0 hval0
  refine (walk a0 len0 cap0 l0 W w0).mono fun e W' ⟨he, bel⟩ => ?_
  subst he
  exact ⟨_, rfl, _, _, _, [], _, [], hW', trodAll_mk1 (shut_bool Try.underlying4 _), (trodAll_cons_mk (Below.trod laidOut (by kernel_rfl) (of_decide_eq_true (by kernel_rfl)) k0 bel lt0) trodAll_mk0), rfl, bel.frame _, fun h => by cases h⟩

theorem over : Rows.codecWritesRow.holds Try.pinned (OpenSpec.ofChange Rows.codecWritesSpec) :=
  OpenClaim.holds_of_wide 3 Try.f3 rfl rfl rfl rfl rfl rfl rfl ⟨rfl, rfl, rfl, rfl, rfl⟩ rfl rfl rfl rfl rfl (by kernel_rfl) Try.func3 (by kernel_rfl)
    (of_decide_eq_true (by kernel_rfl)) (by unfold Func.isWrapper; first | (rw [if_pos (by decide +kernel)]; kernel_rfl) | (rw [if_neg (by decide +kernel)]; exact ⟨rfl, rfl⟩))
    (fun os started H enc _ => lifted os started H enc)

theorem proved : Rows.CodecWritesSaid := over
end Go.Proofs.Ytgdpcgjdljfdbaa.codecWrites
