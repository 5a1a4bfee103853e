/- Words for a Hasher in memory; the contracts of sha2.New and of Hasher.Len. -/
import Derived.Test.YtfnlclooneanaaaDoorShaT
namespace Go.Proofs.YtfnlclooneanaaaDoor
open Go.RowKit
set_option linter.unusedVariables false

/-- The cells of a Hasher. -/
def hcells (s : St) (B : List UInt8) (n : Nat) : List Value := s.vals ++ B.map B8 ++ [.int .i64 (n : Int)]
/-- The Hasher in block b has been given the bytes l. -/
def Hs (w : World) (b : Nat) (l : List UInt8) : Prop :=
  ∃ B : List UInt8, B.length = 64 ∧ B.take (l.length % 64) = l.drop (64 * (l.length / 64)) ∧ Blk w b (hcells (chain h0 l (l.length / 64)) B l.length) 52
theorem hcells_len (s : St) (B : List UInt8) (n : Nat) (hB : B.length = 64) : (hcells s B n).length = 73 := by simp [hcells, St.vals, St.list, hB]
theorem hcells_total (s : St) (B : List UInt8) (n : Nat) (hB : B.length = 64) : (hcells s B n)[72]? = some (.int .i64 (n : Int)) := by
  unfold hcells
  rw [List.getElem?_append_right (by simp [St.vals, St.list, hB])]
  simp [St.vals, St.list, hB]
theorem Hs.below {B0 : Nat} {w w' : World} {b : Nat} {l : List UInt8} (h : Hs w b l) (hb : Below B0 w w') (hlt : b < B0) : Hs w' b l := by
  obtain ⟨B, h1, h2, h3⟩ := h
  exact ⟨B, h1, h2, h3.below hb hlt⟩
theorem Hs.lt {w : World} {b : Nat} {l : List UInt8} (h : Hs w b l) : b < w.heap.size := by
  obtain ⟨B, h1, h2, h3⟩ := h
  exact h3.lt

/-- The cells of a Hasher that is all zero. -/
def zh : Array Value := (List.replicate 8 (Value.int .u32 0) ++ List.replicate 64 (Value.int .u8 0) ++ [Value.int .i64 0]).toArray
theorem infoH : (Tryd.prog.info? 52).map (fun i => (i.zero, i.size)) = some (some (.agg zh), 73) := by kernel_rfl
theorem iH : (Tryd.prog.info? 52).map (·.size) = some 73 := by kernel_rfl

set_option maxRecDepth 100000 in
set_option maxHeartbeats 1000000 in
theorem new_calls (w : World) (hT : Tab w) :
    Calls Tryd.prog 16 #[] w fun e w' => ∃ b, e = .returned (.pointer (some ⟨b, 0, none⟩)) ∧ w.heap.size ≤ b ∧ Hs w' b [] ∧ Below w.heap.size w w' := by
  have c0 : w.cell? ⟨1, 0, none⟩ = some (.int .u32 1779033703) := hT.2 0 _ rfl
  have c1 : w.cell? ⟨1, 1, none⟩ = some (.int .u32 3144134277) := hT.2 1 _ rfl
  have c2 : w.cell? ⟨1, 2, none⟩ = some (.int .u32 1013904242) := hT.2 2 _ rfl
  have c3 : w.cell? ⟨1, 3, none⟩ = some (.int .u32 2773480762) := hT.2 3 _ rfl
  have c4 : w.cell? ⟨1, 4, none⟩ = some (.int .u32 1359893119) := hT.2 4 _ rfl
  have c5 : w.cell? ⟨1, 5, none⟩ = some (.int .u32 2600822924) := hT.2 5 _ rfl
  have c6 : w.cell? ⟨1, 6, none⟩ = some (.int .u32 528734635) := hT.2 6 _ rfl
  have c7 : w.cell? ⟨1, 7, none⟩ = some (.int .u32 1541459225) := hT.2 7 _ rfl
  have hz0 := (zero_of_info infoH).1
  obtain ⟨z, hz⟩ : ∃ z, z = zh := ⟨_, rfl⟩
  rw [← hz] at hz0
  have hzs : z.size = 73 := by rw [hz]; rfl
  have HZ := Lib.hid hz
  clear hz
  go_enter Tryd.func16, Tryd.ntmps16
  go_wp2
  go_ret
  refine ⟨w.heap.size, rfl, Nat.le_refl _, ⟨List.replicate 64 0, by simp, rfl, ?_⟩, (Below.refl _ w).alloc (Nat.le_refl _) _⟩
  rw [HZ.out]
  exact Blk.new w _ _

theorem len_calls (w : World) (b : Nat) (l : List UInt8) (hH : Hs w b l) :
    Calls Tryd.prog 18 #[.pointer (some ⟨b, 0, none⟩)] w fun e w' => e = .returned (.int .i64 (l.length : Int)) ∧ w' = w := by
  obtain ⟨B, hB, hd, hb⟩ := hH
  have c := hb.cell 72
  rw [hcells_total _ _ _ hB] at c
  clear hb hd
  go_enter Tryd.func18, Tryd.ntmps18
  go_wp2
  go_ret
  exact ⟨rfl, rfl⟩
end Go.Proofs.YtfnlclooneanaaaDoor
