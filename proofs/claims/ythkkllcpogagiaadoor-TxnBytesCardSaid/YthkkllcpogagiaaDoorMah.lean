/- Merged texts: ShaY ShaL Eq RefR RefK Own32 AppK. -/
import Derived.Test.YthkkllcpogagiaaDoorMag
import Derived.Test.YthkkllcpogagiaaDoorRows
import Derived.Test.YthkkllcpogagiaaDoorMad
import Derived.ProofKit
import Derived.LaidMore
import Derived.OpenShut
import Derived.Stop.Joined
import Derived.Stop.LaidErr
import Derived.Lib.LaidTab
import Derived.Test.YthkkllcpogagiaaDoorMaa
import Derived.DeepKeys
import Derived.Laws.StructEq
import Derived.Test.YthkkllcpogagiaaDoorMab
import Derived.ArgAppend
/- The contracts of sha2.Twice and of layer 2's awake. -/
namespace Go.Proofs.YthkkllcpogagiaaDoor
open Go.RowKit
set_option linter.unusedVariables false

set_option maxRecDepth 100000 in
/-- The bytes of a hash that lies in a block. -/
theorem hash_rd {w : World} {g : Nat} {t : TypeId} {V : List Value} {l : List UInt8} (h : Blk w g V t) (hV : V = l.map B8) (hl : l.length = 32) : Rd w (some ⟨g, 0, none⟩) 32 l :=
  h.rd 0 32 l hl fun j hj => by rw [hV]; simp [B8, List.getElem?_eq_getElem hj]
set_option maxRecDepth 100000 in
theorem sum1_calls (W : World) (g : Nat) (hg : W.heap.size = g) (A : Option Addr) (n c : Nat) (l : List UInt8) (h : Rd W A n l) (hc : n ≤ c) (hm : c ≤ maxLen) (hn : n ≤ 10000000000) (hT : Tab W) :
    Calls Tryd.prog 39 #[.slice (some ⟨g, 0, none⟩) 1 1] (W.alloc (.cells #[.slice A n c] 28)) (Ret (W.alloc (.cells #[.slice A n c] 28)) (.agg ((sha l).map B8).toArray)) := by
  have hr := rdm_one W g hg A n c l 28 h hc hm
  have := sum_calls _ (some ⟨g, 0, none⟩) 1 1 [l] hr (hT.all ((Below.refl _ W).alloc (Nat.le_refl _) _)) (by omega) (by simp; rw [h.len]; omega)
  simpa using this

set_option maxRecDepth 100000 in
set_option maxHeartbeats 1000000 in
theorem twice_calls (w : World) (A : Option Addr) (n c : Nat) (L : List (List UInt8)) (hR : RdM w A n L) (hT : Tab w) (hn : n ≤ 1000000000) (hf : L.flatten.length ≤ 10000000000) :
    Calls Tryd.prog 28 #[.slice A n c] w (Ret w (.agg ((sha (sha L.flatten)).map B8).toArray)) := by
  have hz32 := Lib.hid (Blk.new w (((List.replicate 32 (0 : UInt8)).map B8).toArray) 42)
  have hB0 := (Below.refl w.heap.size w).alloc (Nat.le_refl _) (.cells (((List.replicate 32 (0 : UInt8)).map B8).toArray) 42)
  obtain ⟨V, hV⟩ : ∃ V, V = (sha L.flatten).map B8 := ⟨_, rfl⟩
  have hVl : V.length = 32 := by rw [hV, List.length_map, sha_len]
  have hV1 : ∀ v ∈ V, v.oneCell' = true := by rw [hV]; exact b8_one _
  have hiV : (Tryd.prog.info? 42).map (·.size) = some V.length := by rw [hVl]; exact i32
  obtain ⟨V2, hV2⟩ : ∃ V, V = (sha (sha L.flatten)).map B8 := ⟨_, rfl⟩
  have hV2l : V2.length = 32 := by rw [hV2, List.length_map, sha_len]
  have hV21 : ∀ v ∈ V2, v.oneCell' = true := by rw [hV2]; exact b8_one _
  have hiV2 : (Tryd.prog.info? 42).map (·.size) = some V2.length := by rw [hV2l]; exact i32
  have S1 := Lib.hid (sum_calls _ A n c L (hR.below hB0) (hT.all hB0) hn hf)
  rw [← hV] at S1
  have S2 : Hid (∀ (W : World) (g : Nat) (k : Nat), W.heap.size = g → Blk W k V 42 → Tab W → Calls Tryd.prog 39 #[.slice (some ⟨g, 0, none⟩) 1 1] (W.alloc (.cells #[.slice (some ⟨k, 0, none⟩) 32 32] 28)) (Ret (W.alloc (.cells #[.slice (some ⟨k, 0, none⟩) 32 32] 28)) (.agg V2.toArray))) := Lib.hid (by
    intro W g k hg hb hTW
    rw [hV2]
    exact sum1_calls W g hg _ 32 32 _ (hash_rd hb hV (sha_len _)) (by omega) (by unfold maxLen; omega) (by omega) hTW)
  have hsl := fun g W => run_sl_all (P := Tryd.prog) 42 5 32 Tryd.underlying42 size8 g 0 (by omega) W
  have H0 := Lib.hid hB0
  have HT := Lib.hid hT
  have H1 := Lib.hid (And.intro hV hV2)
  have I1 := Lib.hid hiV
  have I2 := Lib.hid hiV2
  have L1 := Lib.hid hVl
  have L2 := Lib.hid hV2l
  clear hB0 hT hR hV hV2 hiV hiV2 hVl hV2l
  go_enter Tryd.func28, Tryd.ntmps28
  go_wp2_with (first
    | (go_at_call_of 39 A; refine S1.out.mono ?_; rintro e' w1 ⟨rfl, hbel1⟩)
    | (refine at_store 42 (.tmp 3) (.tmp 5) ?_; refine wpList_store_blk rfl 42 (.tmp 3) (.tmp 5) rfl w1.heap.size _ V _ rfl rfl (Blk.new w1 _ _) (by rw [L1.out]; rfl) I1.out hV1 ?_; intro w2 hb2 ho2
       have hB1 : Below w.heap.size w w1 := H0.out.trans (hbel1.mono (by simp))
       have hs0 := hB1.size
       have hB2 : Below w.heap.size w w2 := (hB1.alloc hs0 _).trans (ho2.below hs0)
       have hl1 : w.heap.size < w1.heap.size := Nat.lt_of_lt_of_le (by simp) hbel1.size
       have hz2 : Blk w2 w.heap.size ((List.replicate 32 (0 : UInt8)).map B8) 42 := ho2.blk ((hz32.out.below hbel1 (by simp)).alloc _) (by omega)
       have J1 := Lib.hid hB2
       have J2 := Lib.hid hz2
       have J3 := Lib.hid hb2
       clear hB1 hs0 hB2 hl1 hz2 hb2 ho2 hbel1)
    | (go_at_call 39; refine (S2.out w2 _ _ rfl J3.out (HT.out.all J1.out)).mono ?_; rintro e' w3 ⟨rfl, hbel3⟩)
    | (refine at_store 42 (.tmp 2) (.tmp 8) ?_; refine wpList_store_blk rfl 42 (.tmp 2) (.tmp 8) rfl w.heap.size _ V2 _ rfl rfl ((J2.out.alloc _).below hbel3 (by have := J2.out.lt; simp; omega)) (by rw [L2.out]; rfl) I2.out hV21 ?_; intro w9 hb9 ho9))
  refine bodyPost_ret (v := .agg V2.toArray) ?_ rfl ⟨by rw [H1.out.2], ?_⟩
  · exact results_cell_row Tryd.results28 _ _ w.heap.size 42 _ (0, 0) _ (by rfl) hb9 Tryd.underlying42 rfl (by rw [List.size_toArray]; exact I2.out)
  · have h1 := J1.out
    have hs := h1.size
    exact ((h1.alloc hs _).trans (hbel3.mono (by simp; omega))).trans (ho9.below (Nat.le_refl _))

set_option maxRecDepth 100000 in
theorem modify_last (a : Array Obj) (x : Obj) (f : Obj → Obj) : (a.push x).modify a.size f = a.push (f x) := by
  apply Array.ext
  · simp
  · intro i h1 h2
    simp only [Array.getElem_modify, Array.getElem_push]
    by_cases h : a.size = i
    · subst h
      simp
    · have hi : i < a.size := by simp at h1; omega
      simp [h, hi]
set_option maxRecDepth 100000 in
theorem freeze_new (w : World) (C : Array Value) (e : TypeId) (k : Nat) : (w.alloc (.cells C e)).freeze ⟨w.heap.size, k, none⟩ 1 = w.alloc (.cells C e (k, k + 1)) := by
  unfold World.freeze
  rw [if_neg (by decide)]
  show ({ w.alloc (.cells C e) with heap := (w.heap.push (.cells C e)).modify w.heap.size _ } : World) = _
  rw [modify_last]
  rfl
set_option maxRecDepth 100000 in
/-- A byte slice that was just built, as a byte slice. -/
theorem conv_lit (w : World) (C : Array Value) (n c : Nat) :
    (convert 28 28 (.slice (some ⟨w.heap.size, 0, none⟩) n c)).run Tryd.prog (w.alloc (.cells C 5)) = .ok (.slice (some ⟨w.heap.size, 0, none⟩) n c) (w.alloc (.cells C 5 (C.size, C.size + 1))) := by
  have hsh : (w.alloc (.cells C 5)).shape? w.heap.size = some (5, C.size) := by
    unfold World.shape?
    rw [heap_alloc_new w _]
  simp [convert, run_underlying Tryd.underlying28, run_underlying Tryd.underlying5, markStringish, hsh]
  exact freeze_new w C 5 C.size
set_option maxRecDepth 100000 in
theorem rd_frozen (w : World) (t : TypeId) (fr : Nat × Nat) : Rd (w.alloc (.cells #[.int .u8 97, .int .u8 98, .int .u8 99] t fr)) (some ⟨w.heap.size, 0, none⟩) 3 [97, 98, 99] := by
  refine ⟨rfl, fun _ => ⟨w.heap.size, 0, rfl, by simp, fun j hj => ?_⟩⟩
  rw [cell_of_row _ w.heap.size (0 + j) _ t fr (heap_alloc_new w _)]
  rcases j with _ | _ | _ | j
  · rfl
  · rfl
  · rfl
  · exact absurd hj (by simp)

end Go.Proofs.YthkkllcpogagiaaDoor

/- What the listed package-level variables of layer 2 give: the tables hold what the document says. -/
namespace Go.Proofs.YthkkllcpogagiaaDoor
open Go.RowKit
set_option linter.unusedVariables false

set_option maxRecDepth 100000 in
theorem gInit : Tryd.prog.globalNamed "masthead/sha2.initial" = some 0 := by kernel_rfl
set_option maxRecDepth 100000 in
theorem gRnds : Tryd.prog.globalNamed "masthead/sha2.rounds" = some 1 := by kernel_rfl
set_option maxRecDepth 100000 in
theorem tInit : (Tryd.prog.globals[0]?).map (·.type) = some 83 := by kernel_rfl
set_option maxRecDepth 100000 in
theorem tRnds : (Tryd.prog.globals[1]?).map (·.type) = some 92 := by kernel_rfl
/-- The listed variables with what they read as. -/
def laidT : List (String × DataW Unit) := [("masthead/sha2.initial", Rows.laid_masthead_sha2_initial), ("masthead/sha2.rounds", Rows.laid_masthead_sha2_rounds)]
set_option maxRecDepth 100000 in
theorem getD_cast (l : List Nat) (j : Nat) (hj : j < l.length) : (l.map fun (x : Nat) => (x : Int)).getD j 0 = ((l.getD j 0 : Nat) : Int) := by
  simp [List.getD, List.getElem?_eq_getElem hj]
set_option maxRecDepth 100000 in
theorem range_tab {W : World} {name : String} {g : Nat} (l : List Nat) (h : Lib.TabIs Tryd.prog W name .u32 (l.map fun (x : Nat) => (x : Int))) (hg : Tryd.prog.globalNamed name = some g) : W.rangeAt g 0 (l.map W32) := fun j v hv => by
  have hj : j < l.length := by have := (List.getElem?_eq_some_iff.1 hv).1; simpa using this
  have := h.cell hg j (by simpa using hj)
  rw [Nat.zero_add, this, getD_cast l j hj, ← hv, map_at l j hj]
set_option maxRecDepth 100000 in
theorem tab_of {W : World} (h : laidMetH Tryd.prog laidT W) : Tab W := by
  rw [MakeChecks.laidMetH_plain _ _ _ (by kernel_rfl)] at h
  have h1 : Lib.TabIs Tryd.prog W "masthead/sha2.initial" .u32 (h0.list.map fun (x : Nat) => (x : Int)) := Lib.tabIs_of_head (rest := [("masthead/sha2.rounds", Rows.laid_masthead_sha2_rounds)]) gInit tInit Tryd.underlying83 Tryd.underlying82 (by kernel_rfl) (by kernel_rfl) h
  have h2 : Lib.TabIs Tryd.prog W "masthead/sha2.rounds" .u32 (kk.map fun (x : Nat) => (x : Int)) := Lib.tabIs_of_head (rest := []) gRnds tRnds Tryd.underlying92 Tryd.underlying82 (by kernel_rfl) (by kernel_rfl) (laidMet.tail h)
  exact ⟨range_tab kk h2 gRnds, range_tab h0.list h1 gInit⟩
set_option maxRecDepth 100000 in
/-- The heap that the program's own start leaves meets the condition. -/
theorem door_met (os : Os) (args : Array Value) : laidMetH Tryd.prog laidT ((World.doorLaid Tryd.prog 400 os).forCall (fun _ _ => 0) ⟨#[], args, []⟩).memory :=
  laidMetH_of_parts3 (fuel := 8) (laidMet_of_run' 8 (by kernel_rfl) (by kernel_rfl)) (by kernel_rfl) (by kernel_rfl)
end Go.Proofs.YthkkllcpogagiaaDoor

/- Two arrays of integers that hold the same are equal. -/
namespace Go.Proofs.YthkkllcpogagiaaDoor
open Go.RowKit

set_option maxRecDepth 100000 in
theorem mapM_some {α β : Type} {f : α → Option β} : ∀ (l : List α), (∀ a ∈ l, ∃ b, f a = some b) → ∃ r, l.mapM f = some r
  | [], _ => ⟨[], rfl⟩
  | a :: l, h => by
    obtain ⟨b, hb⟩ := h a (by simp)
    obtain ⟨r, hr⟩ := mapM_some l (fun x hx => h x (by simp [hx]))
    exact ⟨b :: r, by rw [List.mapM_cons, hb, hr]; rfl⟩
set_option maxRecDepth 100000 in
/-- An array of integers is equal to itself. -/
theorem equal_self {P : Program} (t e : TypeId) (N : Nat) (k : IntKind) (ht : P.underlying t = some (.array N e)) (he : P.underlying e = some (.int k)) (hce : P.cellsOf e = 1) (hct : P.cellsOf t = N) (hk : P.keyTypeAt 2 t = true)
    (V : List Value) (hV : V.length = N) (hw : ∀ v ∈ V, ∃ n, v = .int k n ∧ (Lit.int k n).wf = true) (w : World) : (Op.equalIn 10000 t (.agg V.toArray) (.agg V.toArray)).run P w = .ok true w := by
  have hf : (Value.agg V.toArray).formed P t = true := by simp [Value.formed, ht, hct, hV]
  obtain ⟨r, hr⟩ : ∃ r, (List.range N).mapM (fun i => P.keyLits 1 e ((V.drop (i * P.cellsOf e)).take (P.cellsOf e))) = some r := by
    refine mapM_some _ fun i hi => ?_
    have hiN : i < V.length := by rw [hV]; simpa using hi
    obtain ⟨n, hn, hwf⟩ := hw V[i] (List.getElem_mem hiN)
    have e1 : (V.drop (i * P.cellsOf e)).take (P.cellsOf e) = [.int k n] := by
      rw [hce, Nat.mul_one, List.drop_eq_getElem_cons hiN, hn]
      rfl
    refine ⟨[.int k n], ?_⟩
    rw [e1]
    simp [Program.keyLits, he, hwf]
  have hl : P.keyLits 2 t (Value.agg V.toArray).cells.toList = some r.flatten := by
    show P.keyLits 2 t V = _
    unfold Program.keyLits
    simp only [ht]
    rw [if_pos (by rw [hct, hV]), hr]
    rfl
  obtain ⟨b, hb, hiff⟩ := run_equalIn_deep (P := P) 9998 2 t hk w 2 2 _ _ _ _ hf hf hl hl
  rw [hiff.2 rfl] at hb
  exact hb
set_option maxRecDepth 100000 in
theorem b8_wf (l : List UInt8) : ∀ v ∈ l.map B8, ∃ n, v = .int .u8 n ∧ (Lit.int .u8 n).wf = true := fun v hv => by
  simp only [List.mem_map] at hv
  obtain ⟨x, _, rfl⟩ := hv
  exact ⟨_, rfl, by have := x.toNat_lt; have h1 : IntKind.u8.min = 0 := rfl; have h2 : IntKind.u8.max = 255 := rfl; simp [Lit.wf, h1, h2]; omega⟩
end Go.Proofs.YthkkllcpogagiaaDoor

/- The contracts of the document's own right, K and First of layer 2. -/
namespace Go.Proofs.YthkkllcpogagiaaDoor
open Go.RowKit
set_option linter.unusedVariables false

set_option maxRecDepth 100000 in
theorem ror_one (x i : Nat) (hi : i < 32) (hx : x < 4294967296) : rol 32 x (32 - i) / 2 + rol 32 x (32 - i) % 2 * 2147483648 = rol 32 x (32 - (i + 1)) := by
  have h := rol_step 32 x (31 - i) (by omega) hx
  have hz := rol_lt 32 x (31 - i) (by omega) hx
  rw [show 31 - i + 1 = 32 - i from by omega] at h
  rw [show 32 - (i + 1) = 31 - i from by omega]
  have e : 2 ^ (32 - 1) = 2147483648 := by decide
  have e2 : 2 ^ 32 = 4294967296 := by decide
  rw [e] at h
  rw [e2] at hz
  omega

set_option maxRecDepth 100000 in
set_option maxHeartbeats 400000 in
theorem right_calls (x k : Nat) (w : World) (hx : x < 4294967296) (hk : k < 32) :
    Calls Tryd.prog 47 #[.int .u32 (x : Int), .int .i64 (k : Int)] w fun e w' => e = .returned (.int .u32 (rotr x k : Int)) ∧ w' = w := by
  go_enter Tryd.func47, Tryd.ntmps47
  go_wp2
  go_loop [0, 5] (fun v i => ∃ t : Nat, t ≤ k ∧ i = .int .i64 t ∧ v = .int .u32 (rol 32 x (32 - t) : Int)) (fun _ i => k - (intOf i).toNat)
  case atStart => exact ⟨0, Nat.zero_le _, rfl, by rw [Nat.sub_zero]; congr 2; unfold rol; simp [Nat.mod_one]⟩
  case round =>
    obtain ⟨t, ht, rfl, rfl⟩ := hrel
    by_cases hlt : t < k
    · obtain ⟨y, hy⟩ : ∃ y, y = rol 32 x (32 - t) := ⟨_, rfl⟩
      have hyl : y < 4294967296 := by rw [hy]; exact rol_lt 32 x (32 - t) (by omega) hx
      have hs := ror_one x t (by omega) hx
      rw [← hy] at hs ⊢
      have HS := Lib.hid hs
      clear hs hy
      go_wp2
      go_round
      case rel =>
        refine ⟨t + 1, by omega, by go_num, ?_⟩
        rw [← HS.out]
        congr 1
      case measure => simp [intOf]; omega
    · have e : t = k := by omega
      subst e
      go_wp2
      go_ret
      exact ⟨rfl, rfl⟩

end Go.Proofs.YthkkllcpogagiaaDoor

/- The contracts of the document's own First and K of layer 2. -/
namespace Go.Proofs.YthkkllcpogagiaaDoor
open Go.RowKit
set_option linter.unusedVariables false

set_option maxRecDepth 100000 in
theorem at_build {P : Program} {ops : Array Oper} {rest : List Oper} {Q : Exit → Act → World → Prop} {a : Act} {w : World} {dst : Option Tmp} {t : TypeId} {p : String} {af : Array Edge} (ty : TypeId) {parts : Array (Nat × Operand)} {v : Value}
    (hrun : (execOp a.eval { dst := dst, op := .build ty parts, type := t, pos := p, after := af, guard := none }).run P w = .ok (.value v) w)
    (h : wpList P ops Q rest (a.put dst v) w) : wpList P ops Q ({ dst := dst, op := .build ty parts, type := t, pos := p, after := af, guard := none } :: rest) a w :=
  wpList_plain rfl fun _ hK => by
    unfold Oper.wp
    rw [hrun]
    exact hK _ _ h

set_option maxRecDepth 100000 in
set_option maxHeartbeats 400000 in
theorem kfirst_calls (w : World) : Calls Tryd.prog 40 #[] w (Ret w (.agg h0.arr)) := by
  have hz := Lib.hid (Blk.new w #[.int .u32 0, .int .u32 0, .int .u32 0, .int .u32 0, .int .u32 0, .int .u32 0, .int .u32 0, .int .u32 0] 83)
  obtain ⟨V, hV⟩ : ∃ V, V = h0.vals := ⟨_, rfl⟩
  have hVl : V.length = 8 := by rw [hV]; rfl
  have hV1 : ∀ v ∈ V, v.oneCell' = true := by rw [hV]; exact vals_one _
  have hi : (Tryd.prog.info? 83).map (·.size) = some V.length := by rw [hVl]; exact i8
  have HV := Lib.hid hV
  clear hV
  go_enter Tryd.func40, Tryd.ntmps40
  go_wp2_with (first
    | (refine at_build 83 (v := .agg V.toArray) (by rw [HV.out]; kernel_rfl) ?_)
    | (refine at_store 83 (.tmp 0) (.tmp 1) ?_; refine wpList_store_blk rfl 83 (.tmp 0) (.tmp 1) rfl w.heap.size _ V _ rfl rfl hz.out (by rw [hVl]; rfl) hi hV1 ?_; intro w9 hb9 ho9))
  refine bodyPost_ret (v := .agg V.toArray) ?_ rfl ⟨by rw [HV.out]; rfl, ((Below.refl _ w).alloc (Nat.le_refl _) _).trans (ho9.below (Nat.le_refl _))⟩
  exact results_cell_row Tryd.results40 _ _ w.heap.size 83 _ (0, 0) _ (by rfl) hb9 Tryd.underlying83 rfl (by rw [List.size_toArray]; exact hi)

set_option maxRecDepth 100000 in
set_option maxHeartbeats 400000 in
theorem K_calls (w : World) : Calls Tryd.prog 48 #[] w (Ret w (.agg (kk.map W32).toArray)) := by
  have hz := Lib.hid (Blk.new w (List.replicate 64 (Value.int .u32 0)).toArray 92)
  obtain ⟨V, hV⟩ : ∃ V, V = kk.map W32 := ⟨_, rfl⟩
  have hVl : V.length = 64 := by rw [hV, List.length_map]; exact kk_len
  have hV1 : ∀ v ∈ V, v.oneCell' = true := by rw [hV]; exact w32_one _
  have hi : (Tryd.prog.info? 92).map (·.size) = some V.length := by rw [hVl]; exact i64
  have HV := Lib.hid hV
  clear hV
  go_enter Tryd.func48, Tryd.ntmps48
  go_wp2_with (first
    | (refine at_build 92 (v := .agg V.toArray) (by rw [HV.out]; kernel_rfl) ?_)
    | (refine at_store 92 (.tmp 0) (.tmp 1) ?_; refine wpList_store_blk rfl 92 (.tmp 0) (.tmp 1) rfl w.heap.size _ V _ rfl rfl hz.out (by rw [hVl]; rfl) hi hV1 ?_; intro w9 hb9 ho9))
  refine bodyPost_ret (v := .agg V.toArray) ?_ rfl ⟨by rw [HV.out], ((Below.refl _ w).alloc (Nat.le_refl _) _).trans (ho9.below (Nat.le_refl _))⟩
  exact results_cell_row Tryd.results48 _ _ w.heap.size 92 _ (0, 0) _ (by rfl) hb9 Tryd.underlying92 rfl (by rw [List.size_toArray]; exact hi)
end Go.Proofs.YthkkllcpogagiaaDoor

/- Words for slices of words that a call made, and append onto them. -/
namespace Go.Proofs.YthkkllcpogagiaaDoor
open Go.RowKit
set_option linter.unusedVariables false

set_option maxRecDepth 100000 in
theorem info32 : (Tryd.prog.info? 82).map (fun i => (i.zero, i.size, i.bytes)) = some (some (.int .u32 0), 1, 4) := by kernel_rfl
/-- The slice of n words that begins at A was made by the call and holds the words l. -/
def Own32 (w : World) (base : Nat) (A : Option Addr) (n c : Nat) (l : List Nat) : Prop := l.length = n ∧ w.ownsRow base 82 1 (.slice A n c) n (l.map W32)
set_option maxRecDepth 100000 in
theorem Own32.len {w : World} {base n c : Nat} {A : Option Addr} {l : List Nat} (h : Own32 w base A n c l) : l.length = n := h.1
set_option maxRecDepth 100000 in
theorem Own32.nil (w : World) (base : Nat) : Own32 w base none 0 0 [] := ⟨rfl, World.ownsRow_nil _ _ _ _⟩
set_option maxRecDepth 100000 in
theorem Own32.drew {w : World} {base n c : Nat} {A : Option Addr} {l : List Nat} (h : Own32 w base A n c l) : Own32 w.drew base A n c l := ⟨h.1, h.2.drew⟩
set_option maxRecDepth 100000 in
theorem Own32.at_ {w : World} {base n c : Nat} {A : Option Addr} {l : List Nat} (h : Own32 w base A n c l) (hn : 0 < n) :
    ∃ g, A = some ⟨g, 0, none⟩ ∧ base ≤ g ∧ g < w.heap.size ∧ ∀ k, k < n → w.cell? ⟨g, k, none⟩ = some (.int .u32 (l.getD k 0 : Int)) := by
  obtain ⟨hl, h⟩ := h
  obtain ⟨g, cap, hv, hb, hlt⟩ := World.ownsRow.form h hn
  have hA : A = some ⟨g, 0, none⟩ := by injection hv
  subst hA
  refine ⟨g, rfl, hb, hlt, fun k hk => ?_⟩
  have hk' : k < l.length := by omega
  rw [World.ownsRow.cellAt h k (by omega), map_at l k hk']
set_option maxRecDepth 100000 in
theorem Own32.below {w w' : World} {base n c : Nat} {A : Option Addr} {l : List Nat} (h : Own32 w base A n c l) (hb : Below w.heap.size w w') : Own32 w' base A n c l := by
  obtain ⟨hl, h0, h | ⟨g, cap, cur, hv, hbg, hg, hc, hm, hs, ht⟩⟩ := h
  · exact ⟨hl, h0, Or.inl h⟩
  · exact ⟨hl, h0, Or.inr ⟨g, cap, cur, hv, hbg, (hb.block g (Array.getElem?_eq_some_iff.1 hg).1).trans hg, hc, hm, hs, ht⟩⟩
set_option maxRecDepth 100000 in
theorem wpo_app32 {o : Oper} {a : Act} {K : Act → World → Prop} {Q : Exit → Act → World → Prop} (w : World) (s x : Operand)
    (ho : o.op = .call { callee := .builtin .append, args := #[s, x], argTypes := #[90, 90] })
    (base : Nat) (A : Option Addr) (n c : Nat) (l : List Nat) (u : Nat) (hs : a.eval s = .slice A n c) (hx : a.eval x = .slice (some ⟨w.heap.size, 0, none⟩) 1 1)
    (hown : Own32 w base A n c l) (hb : n + 1 ≤ 1000000) (hbase : base ≤ w.heap.size)
    (h : ∀ A' c' w', Own32 w' base A' (n + 1) c' (l ++ [u]) → Below base w w' → K (a.put o.dst (.slice A' (n + 1) c')) w') :
    o.wp Tryd.prog a (w.alloc (.cells #[W32 u] 82)) K Q := by
  refine wpo_appG _ s x 90 ho 82 (.int .u32 0) 4 Tryd.underlying90 info32 rfl base _ n (l.map W32) hs (own_alloc hown.2 _) _ 1 1 [W32 u] hx rfl ?_ ?_ (by unfold maxLen; omega) (by omega) (by simp; omega) ?_
  · intro _
    refine ⟨_, rfl, fun j v hj => ?_⟩
    rw [Addr.add_mid, cell_of_row _ w.heap.size (0 + j) _ 82 (0, 0) (heap_alloc_new w _)]
    simpa using hj
  · intro v hv; simp at hv; subst hv; rfl
  · intro A' c' w' hown' hbel _ _
    refine h A' c' w' ⟨by simp [hown.1], by rw [List.map_append]; exact hown'⟩ (((Below.refl _ _).alloc hbase _).trans hbel)
set_option maxRecDepth 100000 in
/-- The same at a step of a region that draws its order. -/
theorem st32_one {ops : Array Oper} {o : Oper} {a : Act} {K : Act → World → Prop} {Q : Exit → Act → World → Prop} {E : Prop} (W w : World) (hgd : o.guard = none) (s x : Operand)
    (ho : o.op = .call { callee := .builtin .append, args := #[s, x], argTypes := #[90, 90] })
    (base : Nat) (A : Option Addr) (n c : Nat) (l : List Nat) (z : Int) (u : Nat) (hs : a.eval s = .slice A n c) (hx : a.eval x = .slice (some ⟨w.heap.size, 0, none⟩) 1 1)
    (hW : W = w.alloc (.cells #[.int .u32 z] 82)) (hz : z = (u : Int))
    (hown : Own32 w base A n c l) (hb : n + 1 ≤ 1000000) (hbase : base ≤ w.heap.size)
    (h : ∀ A' c' w', Own32 w' base A' (n + 1) c' (l ++ [u]) → Below base w w' → K (a.put o.dst (.slice A' (n + 1) c')) w') :
    if Region.wanted o (yielded ops a.tmps) = true then Oper.wp Tryd.prog o a W K Q else E := by
  subst hz hW
  exact step_of_wp hgd (wpo_app32 w s x ho base A n c l u hs hx hown hb hbase h)
set_option maxRecDepth 100000 in
/-- The word of four bytes, as the reference reckons it. -/
theorem word_four (B : List UInt8) (t : Nat) (ht : 4 * t + 3 < B.length) :
    word B t = B[4 * t].toNat * 16777216 + B[4 * t + 1].toNat * 65536 + B[4 * t + 2].toNat * 256 + B[4 * t + 3].toNat := by
  unfold word
  have e : (B.drop (4 * t)).take 4 = [B[4 * t], B[4 * t + 1], B[4 * t + 2], B[4 * t + 3]] := by
    rw [List.drop_eq_getElem_cons (by omega), List.drop_eq_getElem_cons (by omega), List.drop_eq_getElem_cons (by omega), List.drop_eq_getElem_cons (by omega)]
    rfl
  rw [e]
  simp only [List.reverse_cons, List.reverse_nil, List.nil_append, List.cons_append, numL]
  omega
end Go.Proofs.YthkkllcpogagiaaDoor

/- An append onto a slice that the call made leaves the cells that the slice had. -/
namespace Go.Proofs.YthkkllcpogagiaaDoor
open Go.RowKit
set_option linter.unusedVariables false

set_option maxRecDepth 100000 in
theorem app_keeps {P : Program} (w : World) (t ty e : TypeId) (z : Value) (bytes : Nat) (ht : P.underlying t = some (.slice e)) (hinfo : (P.info? e).map (fun i => (i.zero, i.size, i.bytes)) = some (some z, 1, bytes)) (hz1 : z.cells.size = 1)
    (base g n cap : Nat) (xs : List Value) (hown : w.ownsRow base e 1 (.slice (some ⟨g, 0, none⟩) n cap) n xs)
    (ad : Addr) (m c : Nat) (news : List Value) (hl : news.length = m) (hX : ∀ j u, news[j]? = some u → w.cell? (ad.add j) = some u) (h1 : ∀ u ∈ news, u.oneCell' = true)
    (h63 : n + m ≤ maxLen) (hbytes : (n + m) * bytes ≤ 140737488355328) {v' : Value} {w' : World}
    (hrun : (Builtin.append_ #[t, t] ty #[.slice (some ⟨g, 0, none⟩) n cap, .slice (some ad) m c]).run P w = .ok v' w') (k : Nat) (hk : k < n) : w'.cell? ⟨g, k, none⟩ = w.cell? ⟨g, k, none⟩ := by
  obtain ⟨i, hi, hzz⟩ := Option.map_eq_some_iff.1 hinfo
  simp only [Prod.mk.injEq] at hzz
  obtain ⟨hz, hs, hb⟩ := hzz
  obtain ⟨hxl, ⟨hv, _⟩ | ⟨g', cap', cur, hv, hbg, hg, hnc, hcm, hcs, hcx⟩⟩ := hown
  · cases hv
  · injection hv with e1 e2 e3
    injection e1 with e4
    injection e4 with e5 e6
    subst e5 e3
    by_cases hr : n + m ≤ cap
    · have hc : ∀ j, j < news.length → (w.cell? ⟨g, 0 + n * i.size + j, none⟩).isSome = true := by
        intro j hj
        rw [cell_of_row w g _ cur e (0, 0) hg]
        simp only [hs]
        simp
        omega
      have hrun2 := run_append_room_cells (P := P) w t ty e i ht hi g 0 n cap ad m c news (by rw [hs]; omega) hX h1 hr hc (fun j hj => frozen_of_row w g _ cur e hg)
      rw [hrun] at hrun2
      injection hrun2 with _ hw
      rw [hw]
      exact World.cell?_setCells_out g news _ w ⟨g, k, none⟩ (fun _ _ => Or.inl (by show k < 0 + n * i.size; rw [hs]; omega))
    · obtain ⟨v2, w2, h2, _, hgr⟩ := run_append_arg_grows (P := P) w t ty e i z 1 bytes ht hi hz hs hb hz1 (by omega) ⟨g, 0, none⟩ n cap xs (by omega) (fun j u hu => by
        rw [Addr.add_mid, cell_of_row w g _ cur e (0, 0) hg]
        rw [← hcx, List.getElem?_take] at hu
        split at hu
        · simpa using hu
        · cases hu) ad m c news (by omega) hX (by omega) h63 hbytes
      rw [hrun] at h2
      injection h2 with _ hw
      rw [hw]
      exact World.cell?_of_block (a := ⟨g, k, none⟩) (hgr.block g (Array.getElem?_eq_some_iff.1 hg).1 (by simp))
set_option maxRecDepth 100000 in
/-- append(ws, u) at a step of a region that draws its order; the words that were there stand in their old block. -/
theorem st32_keeps {ops : Array Oper} {o : Oper} {a : Act} {K : Act → World → Prop} {Q : Exit → Act → World → Prop} {E : Prop} (W w : World) (hgd : o.guard = none) (s x : Operand)
    (ho : o.op = .call { callee := .builtin .append, args := #[s, x], argTypes := #[90, 90] })
    (base g n c : Nat) (l : List Nat) (z : Int) (u : Nat) (hs : a.eval s = .slice (some ⟨g, 0, none⟩) n c) (hx : a.eval x = .slice (some ⟨w.heap.size, 0, none⟩) 1 1)
    (hW : W = w.alloc (.cells #[.int .u32 z] 82)) (hz : z = (u : Int))
    (hown : Own32 w base (some ⟨g, 0, none⟩) n c l) (hb : n + 1 ≤ 1000000) (hbase : base ≤ w.heap.size)
    (h : ∀ A' c' w', Own32 w' base A' (n + 1) c' (l ++ [u]) → Below base w w' → (∀ k, k < n → w'.cell? ⟨g, k, none⟩ = w.cell? ⟨g, k, none⟩) → K (a.put o.dst (.slice A' (n + 1) c')) w') :
    if Region.wanted o (yielded ops a.tmps) = true then Oper.wp Tryd.prog o a W K Q else E := by
  subst hz hW
  have hX : ∀ j v, [W32 u][j]? = some v → (w.alloc (.cells #[W32 u] 82)).cell? ((⟨w.heap.size, 0, none⟩ : Addr).add j) = some v := fun j v hj => by
    rw [Addr.add_mid, cell_of_row _ w.heap.size (0 + j) _ 82 (0, 0) (heap_alloc_new w _)]
    simpa using hj
  have h1 : ∀ v ∈ [W32 u], v.oneCell' = true := by intro v hv; simp at hv; subst hv; rfl
  have ho2 := own_alloc hown.2 (.cells #[W32 u] 82)
  obtain ⟨v', w', hrun, h2, h3, _⟩ := run_appG (P := Tryd.prog) (w.alloc (.cells #[W32 u] 82)) 90 o.type 82 (.int .u32 0) 4 Tryd.underlying90 info32 rfl base _ n (l.map W32) ho2 (some ⟨w.heap.size, 0, none⟩) 1 1 [W32 u] rfl (fun _ => ⟨_, rfl, hX⟩) h1 (by unfold maxLen; omega) (by omega) (by simp; omega)
  obtain ⟨A', c', rfl⟩ := own_shape h2
  have hk := fun k hk => app_keeps (P := Tryd.prog) (w.alloc (.cells #[W32 u] 82)) 90 o.type 82 (.int .u32 0) 4 Tryd.underlying90 info32 rfl base g n c (l.map W32) ho2 ⟨w.heap.size, 0, none⟩ 1 1 [W32 u] rfl hX h1 (by unfold maxLen; omega) (by omega) hrun k hk
  refine step_of_wp hgd ?_
  unfold Oper.wp execOp
  simp only [ho, resolve, invoke, builtin, Sem.run_bind, Sem.run_pure, Result.andThen_ok, List.map_toArray, List.map_cons, List.map_nil, hs, hx]
  have hrun' : (Builtin.append_ #[90, 90] o.type #[.slice (some ⟨g, 0, none⟩) n c, .slice (some ⟨w.heap.size, 0, none⟩) 1 1]).run Tryd.prog (w.alloc (.cells #[.int .u32 (u : Int)] 82)) = .ok (.slice A' (n + 1) c') w' := hrun
  simp only [hrun']
  refine h A' c' w' ⟨by simp [hown.1], by rw [List.map_append]; exact h2⟩ (((Below.refl _ _).alloc hbase _).trans ((Below.refl _ _).grown h3 (by simp; omega) (own_block ho2))) fun k hkn => ?_
  obtain ⟨g2, e2, _, hlt, _⟩ := hown.at_ (by omega)
  cases e2
  rw [hk k hkn]
  exact World.cell?_alloc_lt _ _ _ hlt
end Go.Proofs.YthkkllcpogagiaaDoor
