/- The contract of octet.Little of a word; a copy into a block that is known whole. -/
import Derived.Test.YthbbeknbdgkpkaaClamp
import Derived.Test.YthbbeknbdgkpkaaMem
import Derived.Test.YthbbeknbdgkpkaaPlain
import Derived.Test.YthbbeknbdgkpkaaBlk2
import Derived.Test.YthbbeknbdgkpkaaWidM
import Derived.Laws.IdiomCopy
namespace Go.Proofs.Ythbbeknbdgkpkaa
open Go.RowKit
set_option linter.unusedVariables false

/-- What stands in the slice while Little goes: the first i of the m bytes. -/
def lpart (n m i : Nat) : List UInt8 := little n i ++ List.replicate (m - i) 0
@[simp] theorem lpart_len (n m i : Nat) (h : i ≤ m) : (lpart n m i).length = m := by simp [lpart]; omega
theorem lpart_set (n m i : Nat) (h : i < m) : (lpart n m i).set i (UInt8.ofNat (n / 256 ^ i)) = lpart n m (i + 1) := by
  unfold lpart
  rw [List.set_append_right _ _ (by simp)]
  simp only [little_len, Nat.sub_self]
  rw [show m - i = (m - (i + 1)) + 1 from by omega, List.replicate_succ, List.set_cons_zero]
  simp [little, List.range_succ]
set_option maxHeartbeats 400000 in
theorem little_calls (n : Nat) (k : Int) (m : Nat) (hm : cw k = m) (w : World) :
    Calls Try.prog 46 #[.int .u64 (n : Int), .int .i64 k] w (Mk w (little n m)) := by
  have hm8 : m ≤ 8 := by have := cw_bd k; omega
  have H := Lib.hid hm
  clear hm
  have hmk := fun W => run_mk8 m (by omega) W
  go_enter Try.func46, Try.ntmps46
  go_wp2_with (go_at_call 50; refine (clamp_nat _ _ H.out _).mono ?_; rintro e w' ⟨rfl, rfl⟩)
  go_loopw [12] (fun i wr => ∃ t : Nat, t ≤ m ∧ i = .int .i64 t ∧ Own wr w.heap.size (some ⟨w.heap.size, 0, none⟩) m m (lpart n m t) ∧ Below w.heap.size w wr) (fun i _ => m - (intOf i).toNat)
  case atStart =>
    refine ⟨0, Nat.zero_le _, rfl, ?_, (Below.refl _ _).alloc (Nat.le_refl _) _⟩
    have := Own.made w m (by unfold maxLen; omega)
    simpa [lpart, little] using this
  case round =>
    obtain ⟨t, ht, rfl, hown, hbel⟩ := hrel
    by_cases hlt : t < m
    · have hl : t < (lpart n m t).length := by rw [lpart_len n m t ht]; exact hlt
      have hc := hown.cell hl
      have hf := hown.free t
      have HO := Lib.hid hown
      clear hown
      go_wp2
      go_roundw
      case rel =>
        have h1 := HO.out.set t (UInt8.ofNat (n / 256 ^ t))
        rw [lpart_set n m t hlt, ← byte_at] at h1
        exact ⟨t + 1, by omega, by go_num, h1, hbel.setCell (Nat.le_refl _) _⟩
      case measure => simp [intOf]; omega
    · have e : t = m := by omega
      subst e
      have HO := Lib.hid hown
      clear hown
      go_wp2
      go_ret
      have hx : lpart n t t = little n t := by simp [lpart]
      rw [hx] at HO
      exact ⟨_, _, _, rfl, HO.out, hbel⟩
theorem little8_calls (n : Nat) (w : World) :
    Calls Try.prog 46 #[.int .u64 (n : Int), .int .i64 8] w fun e w' => ∃ ga c, e = .returned (.slice (some ⟨ga, 0, none⟩) 8 c) ∧ Rd w' (some ⟨ga, 0, none⟩) 8 (little n 8) ∧ Below w.heap.size w w' :=
  (little_calls n 8 8 (by decide) w).mono fun e w' ⟨A, k, c, he, hown, hb⟩ => by
    have hk : 8 = k := by have := hown.len; rwa [little_len] at this
    subst hk
    obtain ⟨g, cap, hv, _, _⟩ := World.ownsRow.form hown.2 (by decide)
    have hA : A = some ⟨g, 0, none⟩ := by injection hv
    subst hA
    exact ⟨g, c, he, hown.rd, hb⟩
theorem b8_one (l : List UInt8) : ∀ v ∈ l.map B8, v.oneCell' = true := fun v hv => by
  simp only [List.mem_map] at hv
  obtain ⟨x, _, rfl⟩ := hv
  rfl
theorem i32 : (Try.prog.info? 49).map (·.size) = some 32 := by kernel_rfl
theorem src_of_rd {w : World} {g off n : Nat} {l : List UInt8} (h : Rd w (some ⟨g, off, none⟩) n l) (hn : 0 < n) : ∀ j v, (l.map B8)[j]? = some v → w.cell? ((⟨g, off, none⟩ : Addr).add j) = some v := fun j v hv => by
  obtain ⟨b, o, e, _, hc⟩ := h.2 hn
  obtain ⟨rfl, rfl⟩ : g = b ∧ off = o := by injection e with e; injection e with h1 h2; exact ⟨h1, h2⟩
  rw [List.getElem?_map, Option.map_eq_some_iff] at hv
  obtain ⟨x, hx, rfl⟩ := hv
  obtain ⟨hj, rfl⟩ := List.getElem?_eq_some_iff.1 hx
  rw [Addr.add_mid]
  exact hc j hj
/-- copy into a block that is known whole, at a step of a region that draws its order. -/
theorem step_copy_blk {P : Program} {ops : Array Oper} {o : Oper} {a : Act} {w : World} {K : Act → World → Prop} {Q : Exit → Act → World → Prop} {E : Prop} (hgd : o.guard = none) (d s : Operand) (dT sT : TypeId)
    (ho : o.op = .call { callee := .builtin .copy, args := #[d, s], argTypes := #[dT, sT] }) (elem : TypeId) (hu : P.underlying dT = some (.slice elem)) (hsz : (P.info? elem).map (·.size) = some 1)
    (g off : Nat) (ad : Addr) (dLen dCap sLen sCap : Nat) (hd : a.eval d = .slice (some ⟨g, off, none⟩) dLen dCap) (hs : a.eval s = .slice (some ad) sLen sCap)
    (cur : List Value) (t : TypeId) (hb : Blk w g cur t) (cs : List Value) (hn : cs.length = Nat.min sLen dLen) (hsrc : ∀ j v, cs[j]? = some v → w.cell? (ad.add j) = some v)
    (hfit : off + cs.length ≤ cur.length) (h1 : ∀ v ∈ cs, v.oneCell' = true)
    (h : ∀ w', Blk w' g (over cur off cs) t → Only g w w' → K (a.put o.dst (goInt cs.length)) w') :
    if Region.wanted o (yielded ops a.tmps) = true then Oper.wp P o a w K Q else E := by
  have hw : Region.wanted o (yielded ops a.tmps) = true := by simp [Region.wanted, hgd]
  rw [if_pos hw]
  have hrun := run_copy_cells (P := P) w dT sT o.type elem g off dLen dCap ad sLen sCap cs hu hsz hn hsrc (fun j hj => (hb.there off cs.length hfit j hj).1) (fun j hj => (hb.there off cs.length hfit j hj).2) h1
  unfold Oper.wp
  simp [execOp, ho, resolve, invoke, builtin, hd, hs, hrun, Result.andThen]
  exact h _ (Blk.setCells cs w cur off hb hfit) (Only.setCells _ _ _ _ (Only.refl _ _))

/-- The bytes of a number, as far as word t. -/
theorem little_append (n a b : Nat) : little n (a + b) = little n a ++ little (n / 256 ^ a) b := by
  unfold little
  rw [List.range_add, List.map_append, List.map_map]
  congr 1
  apply List.map_congr_left
  intro i _
  simp only [Function.comp]
  rw [Nat.pow_add, Nat.div_div_eq_div_mul]
theorem little_word (n : Nat) : little (n % 2 ^ 64) 8 = little n 8 := by
  unfold little
  apply List.map_congr_left
  intro i hi
  have hi8 : i < 8 := by simpa using hi
  apply UInt8.toNat_inj.1
  rw [ofNat_toNat, ofNat_toNat]
  have e : 2 ^ 64 = 256 ^ i * 256 ^ (8 - i) := by rw [← Nat.pow_add, show i + (8 - i) = 8 from by omega]
  have e2 : 256 ^ (8 - i) = 256 * 256 ^ (7 - i) := by rw [show 8 - i = (7 - i) + 1 from by omega, Nat.pow_succ, Nat.mul_comm]
  rw [e, Nat.mod_mul_right_div_self, e2, Nat.mod_mul_right_mod]
theorem p256 (t : Nat) : 256 ^ (8 * t) = 2 ^ (64 * t) := by rw [show (256 : Nat) = 2 ^ 8 from rfl, ← Nat.pow_mul]; congr 1; omega
theorem little_wd (x t : Nat) : little (wd x t) 8 = little (x / 256 ^ (8 * t)) 8 := by
  unfold wd
  rw [p256, little_word]
def hpW (x t : Nat) : List UInt8 := little x (8 * t) ++ List.replicate (32 - 8 * t) 0
theorem hpW_len (x t : Nat) (h : t ≤ 4) : (hpW x t).length = 32 := by simp [hpW]; omega
theorem hpW_step (x t : Nat) (h : t < 4) : over ((hpW x t).map B8) (8 * t) ((little (wd x t) 8).map B8) = (hpW x (t + 1)).map B8 := by
  have e : hpW x (t + 1) = (hpW x t).take (8 * t) ++ little (wd x t) 8 ++ (hpW x t).drop (8 * t + 8) := by
    unfold hpW
    rw [little_wd, show 8 * (t + 1) = 8 * t + 8 from by omega, little_append, List.take_left' (by simp), List.drop_append, List.drop_of_length_le (by simp)]
    simp only [little_len, List.nil_append, List.drop_replicate]
    congr 2
    omega
  unfold over
  rw [e, List.map_append, List.map_append, List.map_take, List.map_drop, List.length_map, little_len]
theorem hpW_all (x : Nat) : hpW x 4 = little x 32 := by simp [hpW]
theorem hpW_zero (x : Nat) : hpW x 0 = List.replicate 32 0 := by simp [hpW, little]
theorem wd_num (l : List UInt8) (t : Nat) : wd (numL l) t = numL ((l.drop (8 * t)).take 8) := by
  have h1 := numL_append (l.take (8 * t)) (l.drop (8 * t))
  rw [List.take_append_drop] at h1
  unfold wd
  rw [← p256]
  have h2 := numL_lt (l.take (8 * t))
  have hq : numL l / 256 ^ (8 * t) = numL (l.drop (8 * t)) := by
    by_cases h : 8 * t ≤ l.length
    · rw [List.length_take, Nat.min_eq_left h] at h1 h2
      rw [h1, Nat.add_mul_div_left _ _ (Nat.pow_pos (by decide)), Nat.div_eq_of_lt h2, Nat.zero_add]
    · rw [List.drop_of_length_le (by omega), Nat.div_eq_of_lt]
      · rfl
      · exact Nat.lt_of_lt_of_le (numL_lt l) (Nat.pow_le_pow_right (by decide) (by omega))
  rw [hq]
  have h3 := numL_append ((l.drop (8 * t)).take 8) ((l.drop (8 * t)).drop 8)
  rw [List.take_append_drop] at h3
  have h4 := numL_lt ((l.drop (8 * t)).take 8)
  generalize l.drop (8 * t) = r at *
  have e8 : 2 ^ 64 = 256 ^ 8 := by decide
  by_cases h : 8 ≤ r.length
  · rw [List.length_take, Nat.min_eq_left h] at h3 h4
    rw [h3, e8, Nat.add_mul_mod_self_left, Nat.mod_eq_of_lt h4]
  · have e : r.drop 8 = [] := List.drop_of_length_le (by omega)
    rw [e] at h3
    simp only [numL, Nat.mul_zero, Nat.add_zero] at h3
    rw [h3, Nat.mod_eq_of_lt]
    rw [e8]
    exact Nat.lt_of_lt_of_le h4 (Nat.pow_le_pow_right (by decide) (by rw [List.length_take]; omega))
end Go.Proofs.Ythbbeknbdgkpkaa
