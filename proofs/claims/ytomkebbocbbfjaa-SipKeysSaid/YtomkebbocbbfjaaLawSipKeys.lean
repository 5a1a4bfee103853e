/- Proved: for any hash, sip.Key is the key that the document says, and its last half plays no part; for byte slices longer than 100 nothing more than the document's examples is said. -/
import Derived.Test.YtomkebbocbbfjaaRows
import Derived.Test.YtomkebbocbbfjaaSipT
import Derived.Test.YtomkebbocbbfjaaArrS
import Derived.Test.YtomkebbocbbfjaaHold
import Derived.Test.YtomkebbocbbfjaaSipK
import Derived.Deep.RegionHeld3
import Derived.ProofKit
import Derived.OpenShut
import Derived.ShutString
import Derived.ChangeOld
import Derived.Test.YtomkebbocbbfjaaOpen
namespace Go.Proofs.Ytomkebbocbbfjaa.sipKeys
open Go.ChangeShapes Go.WideShapes Go.ChangeAt Go.RowKit
open Go.ChangeMaps (open_string shut_string)
set_option linter.unusedVariables false

theorem own : ownKnob Try.prog.godebug = none := by kernel_rfl
theorem laidOut : laidOutB Try.prog = true := by kernel_rfl

theorem run_sl_h {P : Program} (t e : TypeId) (N : Nat) (hu : P.underlying t = some (.array N e)) (hs : (P.info? e).map (·.size) = some 1) (g h : Nat) (zh : Int) (hzh : zh = h) (h1 : 0 < N) (h2 : h ≤ N) (w : World) :
    (Instr.sliceAt t (.pointer (some ⟨g, 0, none⟩)) none (some (.int .i64 zh)) none).run P w = .ok (.slice (some ⟨g, 0, none⟩) h N) w := by
  subst hzh
  obtain ⟨i, hi, hsz⟩ := Option.map_eq_some_iff.1 hs
  have e1 : (Instr.sliceBound (.int .i64 (h : Int)) N .sliceAlen).run P w = .ok h w := by rw [run_sliceBound (h0 := by omega) (h1 := by omega)]; simp
  simp [Instr.sliceAt, Instr.sureAddr, run_underlying hu, Instr.sliceBounds, e1, sizeOf, typeInfo, hi, Addr.add]
theorem not8 (x : UInt8) : ∃ y : UInt8, bits .xor .u8 IntKind.u8.max (x.toNat : Int) = (y.toNat : Int) := by
  have hx := x.toNat_lt
  refine ⟨UInt8.ofNat (255 ^^^ x.toNat), ?_⟩
  have h := u8_xor_nat 255 x.toNat (by omega) (by omega)
  have hl : 255 ^^^ x.toNat < 2 ^ 8 := Nat.xor_lt_two_pow (by decide) (by omega)
  rw [ofNat_toNat, Nat.mod_eq_of_lt (by omega)]
  exact h
theorem take_word (l m : List UInt8) (h : l.take 16 = m.take 16) (i : Nat) (hi : i < 2) : wordAt l i = wordAt m i := by
  have e : ∀ r : List UInt8, (r.drop (8 * i)).take 8 = ((r.take 16).drop (8 * i)).take 8 := fun r => by
    rw [List.drop_take, List.take_take, Nat.min_eq_left (by omega)]
  unfold wordAt
  rw [e l, e m, h]
theorem set_take (l : List UInt8) (t : Nat) (y : UInt8) (h : 16 ≤ t) : (l.set t y).take 16 = l.take 16 := by rw [List.take_set_of_le h]
theorem b8_one (l : List UInt8) : ∀ v ∈ l.map B8, v.oneCell' = true := fun v hv => by
  simp only [List.mem_map] at hv
  obtain ⟨x, _, rfl⟩ := hv
  rfl
theorem i32 : (Try.prog.info? 33).map (·.size) = some 32 := by kernel_rfl
theorem rd_part {w : World} {g : Nat} {l : List UInt8} {t : TypeId} (h : Blk w g (l.map B8) t) (o n : Nat) (hn : o + n ≤ l.length) : Rd w (some ⟨g, o, none⟩) n ((l.drop o).take n) :=
  h.rd o n _ (by rw [List.length_take, List.length_drop]; omega) (fun j hj => by
    rw [List.length_take, List.length_drop] at hj
    rw [List.getElem?_map, List.getElem?_eq_getElem (by omega), List.getElem_take, List.getElem_drop]
    rfl)

set_option maxRecDepth 100000 in
set_option maxHeartbeats 2000000 in
theorem walk (l : List UInt8) (A : Option Addr) (n c : Nat) (b : List UInt8) (w : World) (hl : l.length = 32) (h1 : Rd w A n b ∧ n ≤ c ∧ c ≤ maxLen) :
    Calls Try.prog 5 #[.agg (l.map B8).toArray, .slice A n c] w (Ret w (.bool true)) := by
  obtain ⟨hr, hnc, hcm⟩ := h1
  obtain ⟨V, hV⟩ : ∃ V, V = l.map B8 := ⟨_, rfl⟩
  have hVl : V.length = 32 := by rw [hV, List.length_map, hl]
  have hV1 : ∀ v ∈ V, v.oneCell' = true := by rw [hV]; exact b8_one l
  have hiV : (Try.prog.info? 33).map (·.size) = some V.length := by rw [hVl]; exact i32
  by_cases h100 : 100 < n
  · have hd : (100 : Int) < (n : Int) := by omega
    rw [← hV]
    clear hr hnc hcm hV
    go_enter Try.func5, Try.ntmps5
    go_wp2_with (go_at_call 8; refine (awake3_calls _).mono ?_; rintro e' w4 ⟨rfl, hb4⟩)
    go_ret
    exact ⟨rfl, Below.trans ((Below.refl _ w).alloc (Nat.le_refl _) _) (hb4.mono (by simp))⟩
  · have hd : ¬ (100 : Int) < (n : Int) := by omega
    obtain ⟨k0, hk0⟩ : ∃ k, k = wordAt l 0 := ⟨_, rfl⟩
    obtain ⟨k1, hk1⟩ : ∃ k, k = wordAt l 1 := ⟨_, rfl⟩
    have CK : Hid (∀ W, Calls Try.prog 13 #[.agg V.toArray] W (Ret W (.agg #[.int .u64 (k0 : Int), .int .u64 (k1 : Int)]))) := Lib.hid fun W => by
      rw [hk0, hk1, hV]; exact key_calls l W hl
    have HK := Lib.hid (And.intro hk0 hk1)
    have HV := Lib.hid hV
    have HR := Lib.hid hr
    have HI := Lib.hid hiV
    have HVL := Lib.hid hVl
    have HV1 := Lib.hid hV1
    have H0 : Hid (Blk (w.alloc (.cells V.toArray 33)) w.heap.size V 33) := Lib.hid (Blk.new w V.toArray _)
    rw [← hV]
    clear hk0 hk1 hV hr hiV hV1 hcm
    go_enter Try.func5, Try.ntmps5
    go_wp2_with (first
      | (refine at_load 33 (.tmp 2) ?_; refine wpList_load_mid rfl 33 (.tmp 2) rfl w.heap.size 0 rfl V _ (by first | exact (Hid.out J3).range | exact H0.out.range) Try.underlying33 rfl HI.out ?_)
      | (go_at_call 13; refine (CK.out _).mono ?_; rintro e' w1 ⟨rfl, hbel1⟩
         have J1 := Lib.hid (H0.out.below hbel1 H0.out.lt)
         have J2 := Lib.hid (Below.trans ((Below.refl _ w).alloc (Nat.le_refl _) _) (hbel1.mono (by simp)))
         clear hbel1)
      | (refine at_store 23 (.tmp 5) (.tmp 13) ?_; refine wpList_store_blk rfl 23 (.tmp 5) (.tmp 13) rfl w1.heap.size _ [.int .u64 (k0 : Int), .int .u64 (k1 : Int)] _ rfl rfl (Blk.new w1 _ _) rfl (i2 [] 0) (fun v hv => by simp only [List.mem_cons, List.not_mem_nil, or_false] at hv; rcases hv with rfl | rfl <;> rfl) ?_; intro w2 hb2 ho2
         have J3 := Lib.hid (ho2.blk (J1.out.alloc _) (by have := J1.out.lt; omega))
         have J4 := Lib.hid ((J2.out.alloc J2.out.size _).trans (ho2.below J2.out.size))
         have J5 := Lib.hid hb2
         clear hb2 ho2)
      | (refine at_store 33 (.tmp 6) (.tmp 14) ?_; refine wpList_store_blk rfl 33 (.tmp 6) (.tmp 14) rfl w2.heap.size _ V _ rfl rfl (Blk.new w2 _ _) (by rw [HVL.out]; rfl) HI.out HV1.out ?_; intro w3 hb3 ho3
         have J6 := Lib.hid (ho3.blk (J3.out.alloc _) (by have := J3.out.lt; omega))
         have J7 := Lib.hid (ho3.blk (J5.out.alloc _) (by have := J5.out.lt; omega))
         have J8 := Lib.hid ((J4.out.alloc J4.out.size _).trans (ho3.below J4.out.size))
         have J9 := Lib.hid hb3
         clear hb3 ho3))
    go_loopw [7] (fun i wr => ∃ (t : Nat) (m : List UInt8), 16 ≤ t ∧ t ≤ 32 ∧ i = .int .i64 t ∧ m.length = 32 ∧ m.take 16 = l.take 16 ∧ Blk wr w2.heap.size (m.map B8) 33 ∧ Blk wr w1.heap.size [.int .u64 (k0 : Int), .int .u64 (k1 : Int)] 23 ∧ Blk wr w.heap.size V 33 ∧ Below w.heap.size w wr) (fun i _ => 32 - (intOf i).toNat)
    case atStart => exact ⟨16, l, Nat.le_refl _, by omega, rfl, hl, rfl, by rw [← HV.out]; exact J9.out, J7.out, J6.out, J8.out⟩
    case round =>
      obtain ⟨t, m, ht1, ht2, rfl, hml, hmt, hb6, hb5, hb2, hbel⟩ := hrel
      have hw1 := J1.out.lt
      have hw2 := J5.out.lt
      have hw3 := J2.out.size
      by_cases hlt : t < 32
      · have htm : t < m.length := by omega
        obtain ⟨y, hy⟩ := not8 m[t]
        have cx : wr.cell? ⟨w2.heap.size, t, none⟩ = some (.int .u8 (m[t].toNat : Int)) := by
          rw [hb6.cell, List.getElem?_map, List.getElem?_eq_getElem htm]; rfl
        have fx := hb6.free t
        have bt : (t : Int) < 32 := by omega
        obtain ⟨x, hx⟩ : ∃ x : Int, x = (m[t].toNat : Int) := ⟨_, rfl⟩
        rw [← hx] at cx hy
        have hy2 : bits .xor .u8 (if IntKind.u8.signed = true then -1 else IntKind.u8.max) x = (y.toNat : Int) := hy
        clear hy
        have h6 := hb6.set t (B8 y)
        rw [← List.map_set] at h6
        have K6 := Lib.hid h6
        have K5 := Lib.hid (hb5.set_other ⟨w2.heap.size, t, none⟩ (B8 y) (by show w1.heap.size ≠ w2.heap.size; omega))
        have K2 := Lib.hid (hb2.set_other ⟨w2.heap.size, t, none⟩ (B8 y) (by show w.heap.size ≠ w2.heap.size; omega))
        have KB := Lib.hid (hbel.setCell (p := ⟨w2.heap.size, t, none⟩) (by show w.heap.size ≤ w2.heap.size; omega) (B8 y))
        have KM := Lib.hid (And.intro hml hmt)
        clear hb6 hb5 hb2 hbel hx hw1 hw2 hw3 hml hmt h6
        go_wp2
        go_roundw
        case rel => exact ⟨t + 1, m.set t y, by omega, by omega, by go_num, by rw [List.length_set]; exact KM.out.1, by rw [set_take m t y ht1]; exact KM.out.2, K6.out, K5.out, K2.out, KB.out⟩
        case measure => simp [intOf]; omega
      · have e : t = 32 := by omega
        subst e
        obtain ⟨V2, hV2⟩ : ∃ V2, V2 = m.map B8 := ⟨_, rfl⟩
        have hV2l : V2.length = 32 := by rw [hV2, List.length_map, hml]
        have hV21 : ∀ v ∈ V2, v.oneCell' = true := by rw [hV2]; exact b8_one m
        have hi2 : (Try.prog.info? 33).map (·.size) = some V2.length := by rw [hV2l]; exact i32
        have hu2 := Try.underlying33
        rw [← hV2] at hb6
        have hkk := HK.out
        have e0 : wordAt m 0 = k0 := by rw [hkk.1]; exact take_word m l hmt 0 (by omega)
        have e1 : wordAt m 1 = k1 := by rw [hkk.2]; exact take_word m l hmt 1 (by omega)
        have hk0 : k0 < 2 ^ 64 := by rw [hkk.1]; exact wordAt_lt l 0
        have hk1 : k1 < 2 ^ 64 := by rw [hkk.2]; exact wordAt_lt l 1
        obtain ⟨H, hH⟩ : ∃ H, H = sipH k0 k1 b := ⟨_, rfl⟩
        rw [HV.out] at hb2
        obtain ⟨f, hf⟩ : ∃ f : Nat → Nat, f = fun o => numL ((l.drop o).take 8) := ⟨_, rfl⟩
        have f0 : ((f 0 : Nat) : Int) = (k0 : Int) := by rw [hf, hkk.1]; rfl
        have f8 : ((f 8 : Nat) : Int) = (k1 : Int) := by rw [hf, hkk.2]; rfl
        have D1 : Hid (∀ W (o cap : Nat), o ≤ 24 → Hold wr w1.heap.size [.int .u64 (k0 : Int), .int .u64 (k1 : Int)] 23 W → Calls Try.prog 14 #[.slice (some ⟨w.heap.size, o, none⟩) 8 cap] W fun e w' => e = .returned (.int .u64 (f o : Int)) ∧ W = w') := Lib.hid fun W o cap ho h => by
          have h := value_calls (some ⟨w.heap.size, o, none⟩) 8 cap _ W (by omega) (rd_part (hb2.below h.bel hb2.lt) o 8 (by omega))
          rw [List.take_take, Nat.min_self] at h
          rw [hf]
          exact h
        have D3 : Hid (∀ W, Hold wr w1.heap.size [.int .u64 (k0 : Int), .int .u64 (k1 : Int)] 23 W → Calls Try.prog 13 #[.agg V2.toArray] W (fun e W' => e = .returned (.agg #[.int .u64 (k0 : Int), .int .u64 (k1 : Int)]) ∧ Hold wr w1.heap.size [.int .u64 (k0 : Int), .int .u64 (k1 : Int)] 23 W')) := Lib.hid fun W h => by
          refine ret_hold ?_ h
          rw [hV2, ← e0, ← e1]
          exact key_calls m W hml
        have D4 : Hid (∀ W, Hold wr w1.heap.size [.int .u64 (k0 : Int), .int .u64 (k1 : Int)] 23 W → Calls Try.prog 9 #[.agg #[.int .u64 (k0 : Int), .int .u64 (k1 : Int)], .slice A n c] W (fun e W' => e = .returned (.int .u64 (H : Int)) ∧ Hold wr w1.heap.size [.int .u64 (k0 : Int), .int .u64 (k1 : Int)] 23 W')) := Lib.hid fun W h => by
          rw [hH]; exact ret_hold (shash_calls k0 k1 A n c b W hk0 hk1 (by omega) hnc ((HR.out.below hbel).below h.bel)) h
        have s1 := fun W => run_sl_h (P := Try.prog) 33 5 32 Try.underlying33 size8 w.heap.size 8 8 rfl (by omega) (by omega) W
        have s2 := fun W => run_sl_lh (P := Try.prog) 33 5 32 Try.underlying33 size8 w.heap.size 0 8 16 8 16 rfl rfl (by omega) (by omega) W
        simp only [Nat.zero_add, Nat.reduceSub] at s2
        have Z0 : Hold wr w1.heap.size [.int .u64 (k0 : Int), .int .u64 (k1 : Int)] 23 wr.drew := Hold.drew ⟨hb5, Below.refl _ _⟩
        have K0 : Hid (∀ W, Hold wr w1.heap.size [.int .u64 (k0 : Int), .int .u64 (k1 : Int)] 23 W → W.cell? ⟨w1.heap.size, 0, none⟩ = some (.int .u64 (k0 : Int)) ∧ W.cell? ⟨w1.heap.size, 1, none⟩ = some (.int .u64 (k1 : Int)) ∧ W.rangeAt w1.heap.size 0 [.int .u64 (k0 : Int), .int .u64 (k1 : Int)] ∧ W.rangeAt w2.heap.size 0 V2 ∧ Hold wr w1.heap.size [.int .u64 (k0 : Int), .int .u64 (k1 : Int)] 23 W) := Lib.hid fun W h => ⟨h.blk.cell 0, h.blk.cell 1, h.blk.range, (hb6.below h.bel hb6.lt).range, h⟩
        have HB := Lib.hid hbel
        clear hf hb6 hb5 hb2 hbel hkk e0 e1 hk0 hk1 hV2 hH hw1 hw2 hw3 hml hmt hV21
        go_wp2
        go_region_held3 (fun W => W.cell? ⟨w1.heap.size, 0, none⟩ = some (.int .u64 (k0 : Int)) ∧ W.cell? ⟨w1.heap.size, 1, none⟩ = some (.int .u64 (k1 : Int)) ∧ W.rangeAt w1.heap.size 0 [.int .u64 (k0 : Int), .int .u64 (k1 : Int)] ∧ W.rangeAt w2.heap.size 0 V2 ∧ Hold wr w1.heap.size [.int .u64 (k0 : Int), .int .u64 (k1 : Int)] 23 W)
          (first | exact K0.out _ Z0 | exact K0.out _ (by assumption))
          (first
          | (go_at_call 14; refine (D1.out _ _ _ (by decide) (by assumption)).mono ?_; rintro e' w' ⟨rfl, rfl⟩)
          | (go_at_call 13; refine (D3.out _ (by assumption)).mono ?_; rintro e' w5 ⟨rfl, h5⟩)
          | (go_at_call 9; refine (D4.out _ (by assumption)).mono ?_; rintro e' w6 ⟨rfl, h6⟩)
          | (go_at_call 8; refine (ret_hold (awake3_calls _) (by assumption)).mono ?_; rintro e' w4 ⟨rfl, h4⟩))
        all_goals go_wp2
        all_goals go_ret
        all_goals exact ⟨rfl, HB.out.trans (h4.bel.mono HB.out.size)⟩

set_option maxRecDepth 100000 in
theorem lifted (os : Os) (started : os.Started) (H : Type) (enc : TypeId × Value → H) :
    ReturnsInHanded {} Try.checked os 5 .any (Rows.sipKeysSpec.pre6 enc Try.prog Try.f5 Rows.sipKeysRow.domain false) (Rows.sipKeysSpec.post enc Try.prog Try.f5 false true false false) := by
  refine returnsInHanded_of_change (C := Try.checked) own started (by kernel_rfl) Try.func5
    (ChangeSpec.witness6 (enc := enc) (C := Try.checked) false ⟨#[], #[.agg (Array.replicate 32 (.int .u8 0)), .slice none 0 0], []⟩ 8 (by kernel_rfl) (by kernel_rfl) (by kernel_rfl) (by kernel_rfl)) ?_
  intro W base args ds gs before hval0 hW hcnd _
  have hval : ∀ (j : Nat) t v, Try.f5.params[j]? = some t → args[j]? = some v → Value.okWide Try.prog W .any base t v := hval0
  have hW' := hW
  obtain ⟨p, q, hA0, hV, rfl, hfz, hnd⟩ := hW
  have hA : DataW.TrodAll enc Try.prog W 0 (fun _ => true) true Try.f5.params.toList args.toList ds p := hA0
  rw [Try.params5] at hA hval
  obtain ⟨v0, vs0, d0, ds0, p0, q0, hargs, rfl, rfl, h0, r0⟩ := trodAll_cons hA
  obtain ⟨v1, vs1, d1, ds1, p1, q1, rfl, rfl, rfl, h1, r1⟩ := trodAll_cons r0
  obtain ⟨rfl, rfl, rfl⟩ := trodAll_nil r1
  obtain rfl : args = #[v0, v1] := by cases args; simp_all
  obtain ⟨rfl, rfl⟩ := trodVars_none hV
  have k0 := h0
  have lt0 : ∀ x ∈ p0, x.block < W.heap.size := by obtain ⟨m, hm⟩ := k0; exact DataW.trod_lt m _ _ _ hm
  obtain ⟨a0, rfl, w0⟩ := arrH (hval 0 33 v0 rfl rfl) h0
  obtain ⟨a1, len1, cap1, rfl⟩ := okWide_slice Try.underlying24 (hval 1 24 v1 rfl rfl)
  have k1 := h1
  have lt1 : ∀ x ∈ p1, x.block < W.heap.size := by obtain ⟨m, hm⟩ := k1; exact DataW.trod_lt m _ _ _ hm
  obtain ⟨l1, w1⟩ : ∃ l, Rd W a1 len1 l ∧ len1 ≤ cap1 ∧ cap1 ≤ maxLen := by
    obtain ⟨fuel, hf⟩ := h1
    rcases open_ints Try.underlying24 Try.underlying5 (by kernel_rfl) hf with ⟨hcs, _⟩ | ⟨x, l, c, zs, hcs, _, hl, hm, hz, _, hcell, hwz⟩
    · simp [Value.cells] at hcs
      obtain ⟨rfl, rfl, rfl⟩ := hcs
      exact ⟨[], Rd.nil _ _, by omega, by unfold maxLen; omega⟩
    · simp [Value.cells] at hcs
      obtain ⟨rfl, rfl, rfl⟩ := hcs
      obtain ⟨l, hr⟩ := rd_ints hcell hl (by simpa using hz) hwz
      exact ⟨l, hr, hl, hm⟩
  clear hA0 hval0
  refine (walk a0 a1 len1 cap1 l1 W w0 w1).mono fun e W' ⟨he, bel⟩ => ?_
  subst he
  exact ⟨_, rfl, _, _, _, [], _, [], hW', trodAll_mk1 (shut_bool Try.underlying4 _), (trodAll_cons_mk (Below.trod laidOut (by kernel_rfl) (of_decide_eq_true (by kernel_rfl)) k0 bel lt0) (trodAll_cons_mk (Below.trod laidOut (by kernel_rfl) (of_decide_eq_true (by kernel_rfl)) k1 bel lt1) trodAll_mk0)), rfl, bel.frame _, fun h => by cases h⟩

theorem over : Rows.sipKeysRow.holds Try.pinned (OpenSpec.ofChange Rows.sipKeysSpec) :=
  OpenClaim.holds_of_wide 5 Try.f5 rfl rfl rfl rfl rfl rfl rfl ⟨rfl, rfl, rfl, rfl, rfl⟩ rfl rfl rfl rfl rfl (by kernel_rfl) Try.func5 (by kernel_rfl)
    (of_decide_eq_true (by kernel_rfl)) (by unfold Func.isWrapper; first | (rw [if_pos (by decide +kernel)]; kernel_rfl) | (rw [if_neg (by decide +kernel)]; exact ⟨rfl, rfl⟩))
    (fun os started H enc _ => lifted os started H enc)

theorem proved : Rows.SipKeysSaid := over
end Go.Proofs.Ytomkebbocbbfjaa.sipKeys
