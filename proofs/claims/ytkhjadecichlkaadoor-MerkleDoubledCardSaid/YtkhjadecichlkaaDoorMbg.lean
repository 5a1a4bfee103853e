/- Merged texts: MrkE. -/
import Derived.Test.YtkhjadecichlkaaDoorMax
/- The contract of the law's own few of layer 8: hashes of small numbers. -/
namespace Go.Proofs.YtkhjadecichlkaaDoor
open Go.RowKit
set_option linter.unusedVariables false
set_option linter.unusedSimpArgs false

/-- The hash of a small number. -/
def smallH (c : UInt8) : List UInt8 := c :: List.replicate 31 0
set_option maxRecDepth 100000 in
theorem smallH_len (c : UInt8) : (smallH c).length = 32 := rfl
set_option maxRecDepth 100000 in
theorem built_arr {P : Program} (t e : TypeId) (h0 : (P.info? t).map (·.zero) = some (some (.agg z32.toArray))) (hu : P.underlying t = some (.array 32 e)) (hs : (P.info? e).map (·.size) = some 1)
    (parts : List (Nat × Value)) (cells : Array Value) (h2 : Instr.fill (fun i => some (i * 1, 1)) z32.toArray parts = some cells) : P.built t parts = some cells := by
  obtain ⟨it, hi, hz⟩ := Option.map_eq_some_iff.1 h0
  obtain ⟨ie, hie, hse⟩ := Option.map_eq_some_iff.1 hs
  unfold Program.built
  rw [hi, hu]
  simp only
  rw [hz, hie]
  simp only [hse]
  exact h2
set_option maxRecDepth 100000 in
theorem buildSmall (c : UInt8) (W : World) : (Instr.build 25 #[(0, .int .u8 (c.toNat : Int))]).run Tryd.prog W = .ok (.agg ((smallH c).map B8).toArray) W := by
  refine run_build W _ _ _ (built_arr 25 5 (by kernel_rfl) Tryd.underlying25 (by kernel_rfl) _ _ ?_)
  show Instr.fill (fun i => some (i * 1, 1)) z32.toArray [(0, .int .u8 (c.toNat : Int))] = _
  rw [fill_step _ z32 [.int .u8 (c.toNat : Int)] 0 0 _ _ rfl rfl (by simp; decide)]
  rfl
set_option maxRecDepth 100000 in
set_option maxHeartbeats 4000000 in
theorem few_calls (A : Option Addr) (n c : Nat) (l : List UInt8) (w : World) (hr : Rd w A n l) (h63 : n ≤ 9223372036854775807) :
    Calls Tryd.prog 15 #[.slice A n c] w fun e w' => ∃ A' c', e = .returned (.slice A' (min n 20) c') ∧ RdH w' A' (min n 20) ((l.take 20).map smallH) ∧ min n 20 ≤ c' ∧ c' ≤ maxLen ∧ Below w.heap.size w w' := by
  have HR := Lib.hid hr
  have hln := hr.len
  clear hr
  obtain ⟨M, hM⟩ : ∃ M, M = min n 20 := ⟨_, rfl⟩
  obtain ⟨F, hF⟩ : ∃ F, F = (l.take 20).map smallH := ⟨_, rfl⟩
  rw [← hM, ← hF]
  have m1 : M ≤ n := by omega
  have m2 : M ≤ 20 := by omega
  have m3 : M = n ∨ M = 20 := by omega
  have HFF := Lib.hid hF
  clear hM hF
  have CAP : Hid (∀ (W : World) (A' : Option Addr) (n' c' : Nat) L, OwnH W w.heap.size 25 A' n' c' L → n' ≤ c' ∧ c' ≤ maxLen) := Lib.hid fun W A' n' c' L h => by
    rcases h.2.2.2 with ⟨hv, h0⟩ | ⟨g, cap, cur, hv, _, _, h1, h2, _⟩
    · injection hv with e1 e2 e3
      rw [h0, e3]
      exact ⟨by omega, by unfold maxLen; omega⟩
    · injection hv with e1 e2 e3
      rw [e3]
      exact ⟨h1, h2⟩
  go_enter Tryd.func15, Tryd.ntmps15
  go_wp2
  go_loopw [3, 4] (fun v i wr => ∃ (t : Nat) (A' : Option Addr) (c' : Nat), t ≤ M ∧ i = .int .i64 (t : Int) ∧ v = .slice A' t c' ∧ OwnH wr w.heap.size 25 A' t c' ((l.take t).map smallH) ∧ Below w.heap.size w wr) (fun _ i _ => M - (intOf i).toNat)
  case atStart => exact ⟨0, none, 0, by omega, by first | rfl | go_num, rfl, by rw [List.take_zero]; exact OwnH.nil _ _ _, Below.refl _ w⟩
  case round =>
    obtain ⟨t, A', c', htn, rfl, rfl, hown, hbel⟩ := hrel
    by_cases hlt : t < M
    · have hlt1 : (t : Int) < (n : Int) := by omega
      have hlt2 : (t : Int) < 20 := by omega
      obtain ⟨b, off, hl, rfl, hb, hcell⟩ := (HR.out.below hbel).at_ (k := t) (by omega)
      obtain ⟨x, hx⟩ : ∃ x, x = l[t] := ⟨_, rfl⟩
      rw [← hx] at hcell
      obtain ⟨xn, hxn⟩ : ∃ y, y = x.toNat := ⟨_, rfl⟩
      rw [← hxn] at hcell
      obtain ⟨V, hV⟩ : ∃ V, V = (smallH x).map B8 := ⟨_, rfl⟩
      have v32 : V.length = 32 := by rw [hV]; rfl
      have BD : Hid (∀ W, (Instr.build 25 #[(0, .int .u8 (xn : Int))]).run Tryd.prog W = .ok (.agg V.toArray) W) := Lib.hid fun W => by rw [hV, hxn]; exact buildSmall x W
      have hnext : (l.take (t + 1)).map smallH = (l.take t).map smallH ++ [smallH x] := by
        rw [List.take_succ_eq_append_getElem hl, List.map_append, hx]
        rfl
      obtain ⟨T, hT⟩ : ∃ T, T = (l.take t).map smallH := ⟨_, rfl⟩
      rw [← hT] at hown hnext
      have HN := Lib.hid hnext
      have HV := Lib.hid hV
      have H32 := Lib.hid v32
      have hcell' : wr.cell? ⟨b, off + t, none⟩ = some (.int .u8 (xn : Int)) := hcell
      have AP : Hid (∀ (x2 : World), x2 = wr.alloc (.cells V.toArray 25) → OwnH x2 w.heap.size 25 A' t c' T ∧ Blk x2 wr.heap.size V 25 ∧ w.heap.size ≤ x2.heap.size ∧ Below w.heap.size w x2) := Lib.hid fun x2 h2 => by
        have h3 := below_al (Below.refl _ wr) (.cells V.toArray 25)
        rw [← h2] at h3
        refine ⟨⟨hown.1, hown.2.1, ?_⟩, ?_, ?_, below_more hbel h3⟩
        · refine ⟨hown.2.2.1, ?_⟩
          rcases hown.2.2.2 with h | ⟨g, cap, cur, e1, e2, e3, e4⟩
          · exact .inl h
          · exact .inr ⟨g, cap, cur, e1, e2, (h3.block g (Array.getElem?_eq_some_iff.1 e3).1).trans e3, e4⟩
        · rw [h2]; exact Blk.new wr _ _
        · exact Nat.le_trans hbel.size h3.size
      clear hx hxn hV hown hT hnext v32 hbel hcell CAP
      go_wp2_with (first
        | ((with_reducible refine at_bld 25 ?_); refine wpList_bld rfl 25 _ rfl _ _ (by simp [Act.eval]) BD.out ?_)
        | ((with_reducible refine at_bs 22 (.tmp 20) ?_); refine wpList_bs rfl 22 25 (.tmp 20) rfl Tryd.underlying22 infoG V H32.out rfl ?_)
        | (at_builtin; have hap := AP.out _ rfl; refine wpList_appH rfl _ _ 22 25 rfl Tryd.underlying22 infoG w.heap.size A' t c' T rfl hap.1 (smallH x) rfl wr.heap.size rfl V HV.out hap.2.1 (by omega) hap.2.2.1 ?_; intro A2 c2 w2 ho2 hb2; have hb3 := hap.2.2.2.trans hb2))
      go_roundw
      case rel => exact ⟨t + 1, A2, c2, by omega, by go_num, rfl, by rw [HN.out]; exact ho2, hb3⟩
      case measure => simp [intOf]; omega
    · have e : t = M := by omega
      subst e
      have hfin : (l.take t).map smallH = F := by
        rw [HFF.out]
        rcases Nat.lt_or_ge n 20 with h | h
        · have : t = n := by omega
          rw [List.take_of_length_le (by omega), List.take_of_length_le (by omega)]
        · have : t = 20 := by omega
          rw [this]
      rw [hfin] at hown
      have HO := Lib.hid (And.intro hown.rd (CAP.out _ _ _ _ _ hown))
      clear hown hfin CAP
      by_cases hn20 : t < n
      · have hl1 : (t : Int) < (n : Int) := by omega
        have hl2 : ¬ (t : Int) < 20 := by omega
        go_wp2
        go_ret
        exact ⟨A', c', rfl, HO.out.1, HO.out.2.1, HO.out.2.2, hbel⟩
      · have hl1 : ¬ (t : Int) < (n : Int) := by omega
        go_wp2
        go_ret
        exact ⟨A', c', rfl, HO.out.1, HO.out.2.1, HO.out.2.2, hbel⟩
end Go.Proofs.YtkhjadecichlkaaDoor
