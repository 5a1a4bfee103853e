/- Words for wide numbers in memory: an array of four words, by what its words are. -/
import Derived.Test.YtdgfgehjnfadnaaWidM
import Derived.Test.YtdgfgehjnfadnaaBigQ
namespace Go.Proofs.Ytdgfgehjnfadnaa
open Go.RowKit
set_option linter.unusedVariables false

/-- Four words as cells. -/
def cellsW (f : Nat → Nat) : List Value := [.int .u64 (f 0 : Int), .int .u64 (f 1 : Int), .int .u64 (f 2 : Int), .int .u64 (f 3 : Int)]
def zerosW : List Value := [.int .u64 0, .int .u64 0, .int .u64 0, .int .u64 0]
def upd (f : Nat → Nat) (t x : Nat) : Nat → Nat := fun j => if j = t then x else f j
theorem upd_same (f : Nat → Nat) (t x : Nat) : upd f t x t = x := by simp [upd]
theorem upd_other (f : Nat → Nat) (t x j : Nat) (h : j ≠ t) : upd f t x j = f j := by simp [upd, h]
theorem cellsW_at (f : Nat → Nat) (t : Nat) (h : t < 4) : (cellsW f)[t]? = some (.int .u64 (f t : Int)) := by
  rcases (show t = 0 ∨ t = 1 ∨ t = 2 ∨ t = 3 by omega) with rfl | rfl | rfl | rfl <;> rfl
theorem cellsW_set (f : Nat → Nat) (t x : Nat) (h : t < 4) : (cellsW f).set t (.int .u64 (x : Int)) = cellsW (upd f t x) := by
  rcases (show t = 0 ∨ t = 1 ∨ t = 2 ∨ t = 3 by omega) with rfl | rfl | rfl | rfl <;> rfl
theorem cellsW_ext (f g : Nat → Nat) (h : ∀ j, j < 4 → f j = g j) : cellsW f = cellsW g := by
  unfold cellsW
  rw [h 0 (by omega), h 1 (by omega), h 2 (by omega), h 3 (by omega)]
theorem cellsW_len (f : Nat → Nat) : (cellsW f).length = 4 := rfl
theorem cellsW_one (f : Nat → Nat) : ∀ v ∈ cellsW f, v.oneCell' = true := fun v hv => by
  simp only [cellsW, List.mem_cons, List.not_mem_nil, or_false] at hv
  rcases hv with rfl | rfl | rfl | rfl <;> rfl
theorem sizeW (f : Nat → Nat) : (Try.prog.info? 25).map (·.size) = some (cellsW f).length := by
  show (Try.prog.info? 25).map (·.size) = some 4
  kernel_rfl
/-- The array of a number. -/
def uA (N : Nat) : Array Value := #[.int .u64 (wd N 0 : Int), .int .u64 (wd N 1 : Int), .int .u64 (wd N 2 : Int), .int .u64 (wd N 3 : Int)]
theorem uA_cells (N : Nat) : (cellsW (wd N)).toArray = uA N := rfl
theorem uA_list (N : Nat) : (uA N).toList = cellsW (wd N) := rfl
theorem uA_size (N : Nat) : (uA N).size = 4 := rfl
theorem sizeU : (Try.prog.info? 25).map (·.size) = some 4 := by kernel_rfl
theorem zerosW_eq : zerosW = cellsW (fun _ => 0) := rfl
theorem uA_mod (N : Nat) : uA (N % 2 ^ 256) = uA N := by
  rw [← uA_cells, ← uA_cells, cellsW_ext _ _ (fun j hj => wd_mod N j hj)]
theorem U4.wd (u : U4) (h : u.ok) : wd u.val 0 = u.a ∧ Go.Proofs.Ytdgfgehjnfadnaa.wd u.val 1 = u.b ∧ Go.Proofs.Ytdgfgehjnfadnaa.wd u.val 2 = u.c ∧ Go.Proofs.Ytdgfgehjnfadnaa.wd u.val 3 = u.d := by
  have hw := u.words h
  have hd := digs_lt u.val
  unfold ws4 U4.vals at hw
  rw [wk_val _ 0 hd, wk_val _ 1 hd, wk_val _ 2 hd, wk_val _ 3 hd, val_digs] at hw
  injection hw with h0 hw
  injection hw with h1 hw
  injection hw with h2 hw
  injection hw with h3 hw
  injection h0 with _ h0
  injection h1 with _ h1
  injection h2 with _ h2
  injection h3 with _ h3
  exact ⟨by exact_mod_cast h0, by exact_mod_cast h1, by exact_mod_cast h2, by exact_mod_cast h3⟩
theorem U4.uA (u : U4) (h : u.ok) : u.arr = uA u.val := by
  obtain ⟨h0, h1, h2, h3⟩ := u.wd h
  unfold U4.arr Go.Proofs.Ytdgfgehjnfadnaa.uA
  rw [h0, h1, h2, h3]
/-- The wide number of a number. -/
def ofN (N : Nat) : U4 := ⟨wd N 0, wd N 1, wd N 2, wd N 3⟩
theorem ofN_ok (N : Nat) : (ofN N).ok := ⟨wd_lt _ _, wd_lt _ _, wd_lt _ _, wd_lt _ _⟩
theorem ofN_arr (N : Nat) : (ofN N).arr = uA N := rfl
theorem ofN_val (N : Nat) (h : N < 2 ^ 256) : (ofN N).val = N := by
  rw [U4.val_eq]
  show wd N 0 + 18446744073709551616 * (wd N 1 + 18446744073709551616 * (wd N 2 + 18446744073709551616 * wd N 3)) = N
  have h0 := div_succ N 0
  have h1 := div_succ N 1
  have h2 := div_succ N 2
  have h3 := div_succ N 3
  have h4 : N / 2 ^ (64 * 4) = 0 := Nat.div_eq_of_lt h
  simp only [Nat.mul_zero, Nat.pow_zero, Nat.div_one] at h0
  rw [h4] at h3
  rw [show (0 : Nat) + 1 = 1 from rfl] at h0
  rw [show (1 : Nat) + 1 = 2 from rfl] at h1
  rw [show (2 : Nat) + 1 = 3 from rfl] at h2
  generalize N / 2 ^ (64 * 1) = N1 at *
  generalize N / 2 ^ (64 * 2) = N2 at *
  generalize N / 2 ^ (64 * 3) = N3 at *
  generalize wd N 0 = a at *
  generalize wd N 1 = b at *
  generalize wd N 2 = c at *
  generalize wd N 3 = d at *
  omega
/-- Results: an array and a slot; two arrays. -/
theorem results_row_tmp {P : Program} {fn : Func} {p u : Tmp} {ty : TypeId} (h : fn.results = #[.cell p ty, .tmp u]) (tmps : Array Value) (w : World) (g : Nat) (t : TypeId) (cs : Array Value) (fr : Nat × Nat) (d : TypeDesc) (x : Value)
    (hp : tmps.getD p undef = .pointer (some ⟨g, 0, none⟩)) (hx : tmps.getD u undef = x) (hg : w.heap[g]? = some (.cells cs t fr))
    (hu : P.underlying ty = some d) (hd : (match d with | .struct _ | .array _ _ => true | _ => false) = true) (hi : (P.info? ty).map (·.size) = some cs.size) :
    (results fn tmps).run P w = .ok (.tuple #[.agg cs, x]) w := by
  have hp' : tmps[p]?.getD undef = .pointer (some ⟨g, 0, none⟩) := by simpa using hp
  have hx' : tmps[u]?.getD undef = x := by simpa using hx
  simp [results, h, hp', hx', asAddr, run_loadVar_row w g t ty cs fr d hg hu hd hi]
theorem results_row_row {P : Program} {fn : Func} {p u : Tmp} {ty : TypeId} (h : fn.results = #[.cell p ty, .cell u ty]) (tmps : Array Value) (w : World) (g g2 : Nat) (t : TypeId) (cs cs2 : Array Value) (fr : Nat × Nat) (d : TypeDesc)
    (hp : tmps.getD p undef = .pointer (some ⟨g, 0, none⟩)) (hp2 : tmps.getD u undef = .pointer (some ⟨g2, 0, none⟩)) (hg : w.heap[g]? = some (.cells cs t fr)) (hg2 : w.heap[g2]? = some (.cells cs2 t fr))
    (hu : P.underlying ty = some d) (hd : (match d with | .struct _ | .array _ _ => true | _ => false) = true) (hi : (P.info? ty).map (·.size) = some cs.size) (hi2 : (P.info? ty).map (·.size) = some cs2.size) :
    (results fn tmps).run P w = .ok (.tuple #[.agg cs, .agg cs2]) w := by
  have hp' : tmps[p]?.getD undef = .pointer (some ⟨g, 0, none⟩) := by simpa using hp
  have hp2' : tmps[u]?.getD undef = .pointer (some ⟨g2, 0, none⟩) := by simpa using hp2
  simp [results, h, hp', hp2', asAddr, run_loadVar_row w g t ty cs fr d hg hu hd hi, run_loadVar_row w g2 t ty cs2 fr d hg2 hu hd hi2]
theorem big_callsN (N : Nat) (w : World) (h : N < 2 ^ 256) : Calls Try.prog 17 #[.agg (uA N)] w (MkB w N) := by
  have := big_calls4 (ofN N) w (ofN_ok N)
  rw [ofN_val N h] at this
  exact this
end Go.Proofs.Ytdgfgehjnfadnaa
