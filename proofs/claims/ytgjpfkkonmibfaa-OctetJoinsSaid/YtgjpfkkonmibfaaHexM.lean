/- Plain mathematics of hexadecimal digits: the digits of bytes, the bytes of digits, and that each undoes the other. -/
import Derived.Test.YtgjpfkkonmibfaaPlain
namespace Go.Proofs.Ytgjpfkkonmibfaa

/-- The digit of a number below 16. -/
def hd (k : Nat) : UInt8 := if k < 10 then UInt8.ofNat (48 + k) else UInt8.ofNat (87 + k)
theorem hd_nat (k : Nat) (hk : k < 16) : (hd k).toNat = if k < 10 then 48 + k else 87 + k := by
  unfold hd
  split <;> rw [ofNat_toNat] <;> omega
theorem table_hd (k : Nat) (hk : k < 16) (h : k < (⟨#[48, 49, 50, 51, 52, 53, 54, 55, 56, 57, 97, 98, 99, 100, 101, 102]⟩ : ByteArray).size) :
    (⟨#[48, 49, 50, 51, 52, 53, 54, 55, 56, 57, 97, 98, 99, 100, 101, 102]⟩ : ByteArray)[k] = hd k := by
  have hx : k = 0 ∨ k = 1 ∨ k = 2 ∨ k = 3 ∨ k = 4 ∨ k = 5 ∨ k = 6 ∨ k = 7 ∨ k = 8 ∨ k = 9 ∨ k = 10 ∨ k = 11 ∨ k = 12 ∨ k = 13 ∨ k = 14 ∨ k = 15 := by omega
  rcases hx with rfl | rfl | rfl | rfl | rfl | rfl | rfl | rfl | rfl | rfl | rfl | rfl | rfl | rfl | rfl | rfl <;> rfl
/-- Is it a digit? -/
def dok (c : UInt8) : Bool := decide (48 ≤ c.toNat ∧ c.toNat ≤ 57 ∨ 97 ≤ c.toNat ∧ c.toNat ≤ 102)
/-- A digit's value. -/
def dv (c : UInt8) : Nat := if c.toNat ≤ 57 then c.toNat - 48 else c.toNat - 87
theorem dv_lt (c : UInt8) (h : dok c = true) : dv c < 16 := by
  simp only [dok, decide_eq_true_eq] at h
  unfold dv; split <;> omega
theorem dok_hd (k : Nat) (hk : k < 16) : dok (hd k) = true := by
  simp only [dok, decide_eq_true_eq]
  rw [hd_nat k hk]
  split <;> omega
theorem dv_hd (k : Nat) (hk : k < 16) : dv (hd k) = k := by
  unfold dv
  rw [hd_nat k hk]
  split <;> split <;> omega
theorem hd_dv (c : UInt8) (h : dok c = true) : hd (dv c) = c := by
  have h2 := dv_lt c h
  apply UInt8.toNat_inj.1
  rw [hd_nat _ h2]
  simp only [dok, decide_eq_true_eq] at h
  unfold dv
  split <;> split <;> omega

/-- The digits of bytes. -/
def hexL : List UInt8 → List UInt8
  | [] => []
  | c :: r => hd (c.toNat / 16) :: hd (c.toNat % 16) :: hexL r
/-- The bytes of digits. -/
def unhL : List UInt8 → List UInt8
  | a :: b :: r => UInt8.ofNat (dv a * 16 + dv b) :: unhL r
  | _ => []
theorem hexL_len (l : List UInt8) : (hexL l).length = 2 * l.length := by
  induction l with
  | nil => rfl
  | cons c r ih => simp only [hexL, List.length_cons, ih]; omega
theorem hexL_append (l r : List UInt8) : hexL (l ++ r) = hexL l ++ hexL r := by
  induction l with
  | nil => rfl
  | cons c l ih => simp [hexL, ih]
def good (l : List UInt8) : Prop := l.length % 2 = 0 ∧ ∀ c ∈ l, dok c = true
theorem good_hexL (l : List UInt8) : good (hexL l) := by
  refine ⟨by rw [hexL_len]; omega, ?_⟩
  induction l with
  | nil => intro c h; simp [hexL] at h
  | cons c r ih =>
    have hc := c.toNat_lt
    intro x hx
    simp only [hexL, List.mem_cons] at hx
    rcases hx with rfl | rfl | hx
    · exact dok_hd _ (by omega)
    · exact dok_hd _ (by omega)
    · exact ih x hx
theorem unhL_hexL (l : List UInt8) : unhL (hexL l) = l := by
  induction l with
  | nil => rfl
  | cons c r ih =>
    have hc := c.toNat_lt
    simp only [hexL, unhL, ih, dv_hd _ (show c.toNat / 16 < 16 by omega), dv_hd _ (show c.toNat % 16 < 16 by omega)]
    congr 1
    apply UInt8.toNat_inj.1
    rw [ofNat_toNat]
    omega
theorem hexL_unhL : ∀ (n : Nat) (l : List UInt8), l.length ≤ n → good l → hexL (unhL l) = l
  | _, [], _, _ => rfl
  | _, [_], _, h => by have := h.1; simp at this
  | 0, a :: b :: r, h, _ => by simp at h
  | n + 1, a :: b :: r, h, hg => by
    have ha := hg.2 a (by simp)
    have hb := hg.2 b (by simp)
    have h1 := dv_lt a ha
    have h2 := dv_lt b hb
    have hr : good r := ⟨by have := hg.1; simp at this; omega, fun c hc => hg.2 c (by simp [hc])⟩
    simp only [unhL, hexL, hexL_unhL n r (by simp at h; omega) hr, ofNat_toNat]
    rw [show (dv a * 16 + dv b) % 256 / 16 = dv a from by omega, show (dv a * 16 + dv b) % 256 % 16 = dv b from by omega, hd_dv a ha, hd_dv b hb]
theorem unhL_len : ∀ (n : Nat) (l : List UInt8), l.length ≤ n → (unhL l).length = l.length / 2
  | _, [], _ => rfl
  | _, [_], _ => by simp [unhL]
  | 0, a :: b :: r, h => by simp at h
  | n + 1, a :: b :: r, h => by
    simp only [unhL, List.length_cons, unhL_len n r (by simp at h; omega)]
    omega
theorem unhL_get : ∀ (n : Nat) (l : List UInt8) (t : Nat) (h1 : 2 * t + 1 < l.length) (h2 : t < (unhL l).length), l.length ≤ n → (unhL l)[t] = UInt8.ofNat (dv l[2 * t] * 16 + dv l[2 * t + 1])
  | _, [], _, h1, _, _ => by simp at h1
  | _, [_], _, h1, _, _ => by simp at h1
  | 0, a :: b :: r, _, _, _, h => by simp at h
  | n + 1, a :: b :: r, 0, _, _, _ => by simp [unhL]
  | n + 1, a :: b :: r, t + 1, h1, h2, h => by
    have h1' : 2 * t + 1 < r.length := by simp at h1; omega
    have h2' : t < (unhL r).length := by simp [unhL] at h2; exact h2
    have ih := unhL_get n r t h1' h2' (by simp at h; omega)
    simp only [unhL, List.getElem_cons_succ]
    rw [ih]
    rfl
end Go.Proofs.Ytgjpfkkonmibfaa
