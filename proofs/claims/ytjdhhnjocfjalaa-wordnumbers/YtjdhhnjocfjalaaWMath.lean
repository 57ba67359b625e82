/-
  Plain mathematics of fields of words: no program. A field of a word is read and set bit by bit; every fact here is about natural numbers and integers alone.
-/
import Derived.Laws.BitsAllLaws
namespace Go.Proofs.Ytjdhhnjocfjalaa

def isF (a b : Int) : Bool := decide (0 ≤ a ∧ 1 ≤ b ∧ b ≤ 64 ∧ a + b ≤ 64)
def lowI (b : Int) : Int := ((2 ^ b.toNat - 1 : Nat) : Int)
def fieldN (w a b : Nat) : Nat := w / 2 ^ a % 2 ^ b
def withN (w a b v : Nat) : Nat := (w &&& (2 ^ 64 - 1 - (2 ^ b - 1) * 2 ^ a)) ||| (v * 2 ^ a)
def fieldI (w a b : Int) : Int := ((fieldN w.toNat a.toNat b.toNat : Nat) : Int)
def withI (w a b v : Int) : Int := ((withN w.toNat a.toNat b.toNat v.toNat : Nat) : Int)
def bitN (w i : Nat) : Nat := w / 2 ^ i % 2
def bitI (w i : Int) : Int := ((bitN w.toNat i.toNat : Nat) : Int)

theorem isF_true {a b : Int} (h : isF a b = true) : 0 ≤ a ∧ 1 ≤ b ∧ b ≤ 64 ∧ a + b ≤ 64 := by
  unfold isF at h; simpa using h
theorem isF_mk {a b : Int} (h : 0 ≤ a ∧ 1 ≤ b ∧ b ≤ 64 ∧ a + b ≤ 64) : isF a b = true := by
  unfold isF; simpa using h
theorem isF_false {a b : Int} (h : isF a b = false) : ¬ (0 ≤ a ∧ 1 ≤ b ∧ b ≤ 64 ∧ a + b ≤ 64) := by
  unfold isF at h; simpa using h

theorem low_eq (b : Int) (h1 : 1 ≤ b) (h2 : b ≤ 64) : (18446744073709551615 : Int) / 2 ^ (64 - b).toNat = lowI b := by
  have : ∀ n : Fin 65, (18446744073709551615 : Int) / 2 ^ (64 - (n.val : Int)).toNat = lowI (n.val : Int) := by decide +kernel
  have h := this ⟨b.toNat, by omega⟩
  simp only [] at h
  rw [show ((b.toNat : Nat) : Int) = b by omega] at h
  exact h

theorem two_pow_le_64 {n : Nat} (h : n ≤ 64) : 2 ^ n ≤ 18446744073709551616 := by
  have : 2 ^ n ≤ 2 ^ 64 := Nat.pow_le_pow_right (by decide) h
  simpa using this

theorem low_lt (b : Int) (h2 : b ≤ 64) : 0 ≤ lowI b ∧ lowI b ≤ 18446744073709551615 := by
  have h := two_pow_le_64 (n := b.toNat) (by omega)
  have h1 : 0 < 2 ^ b.toNat := Nat.two_pow_pos _
  unfold lowI; omega

theorem le_low (v b : Int) (v0 : 0 ≤ v) : v ≤ lowI b ↔ v.toNat < 2 ^ b.toNat := by
  have h1 : 0 < 2 ^ b.toNat := Nat.two_pow_pos _
  unfold lowI; omega

theorem pow_cast (n : Nat) : (2 : Int) ^ n = ((2 ^ n : Nat) : Int) := by simp

theorem shr_cast (w : Int) (n : Nat) (h0 : 0 ≤ w) : w / 2 ^ n = ((w.toNat / 2 ^ n : Nat) : Int) := by
  obtain ⟨W, rfl⟩ := Int.eq_ofNat_of_zero_le h0
  rw [pow_cast, Int.toNat_natCast, Int.natCast_ediv]

theorem field_eq (w a b : Int) (h0 : 0 ≤ w) (h1 : w ≤ 18446744073709551615) (b1 : b ≤ 64) :
    bits .and .u64 (w / 2 ^ a.toNat) (lowI b) = fieldI w a b := by
  have hl := low_lt b b1
  have hw : w.toNat / 2 ^ a.toNat ≤ w.toNat := Nat.div_le_self _ _
  rw [shr_cast w _ h0, lowI, u64_and_nat _ _ (by omega) (by unfold lowI at hl; omega), Nat.and_two_pow_sub_one_eq_mod]
  rfl

theorem mul_pow_lt {x a b : Nat} (hx : x < 2 ^ b) (ab : a + b ≤ 64) : x * 2 ^ a < 18446744073709551616 := by
  have h : x * 2 ^ a < 2 ^ b * 2 ^ a := Nat.mul_lt_mul_of_pos_right hx (Nat.two_pow_pos _)
  rw [← Nat.pow_add] at h
  have := two_pow_le_64 (n := b + a) (by omega)
  omega

theorem with_eq (w a b v : Int) (h0 : 0 ≤ w) (h1 : w ≤ 18446744073709551615) (v0 : 0 ≤ v) (hv : v ≤ lowI b) (a0 : 0 ≤ a) (b0 : 1 ≤ b) (ab : a + b ≤ 64) :
    bits .or .u64 (bits .andNot .u64 w (IntKind.u64.wrap (lowI b * 2 ^ a.toNat))) (IntKind.u64.wrap (v * 2 ^ a.toNat)) = withI w a b v := by
  have hv' := (le_low v b v0).1 hv
  have hp : 0 < 2 ^ b.toNat := Nat.two_pow_pos _
  have hm := mul_pow_lt (x := 2 ^ b.toNat - 1) (a := a.toNat) (b := b.toNat) (by omega) (by omega)
  have hs := mul_pow_lt (x := v.toNat) (a := a.toNat) (b := b.toNat) hv' (by omega)
  obtain ⟨W, rfl⟩ := Int.eq_ofNat_of_zero_le h0
  obtain ⟨V, rfl⟩ := Int.eq_ofNat_of_zero_le v0
  rw [Int.toNat_natCast] at hs
  rw [pow_cast, lowI, ← Int.natCast_mul, ← Int.natCast_mul, IntKind.wrap_u64, IntKind.wrap_u64]
  rw [Int.emod_eq_of_lt (by omega) (by omega), Int.emod_eq_of_lt (by omega) (by omega)]
  rw [u64_andNot_nat _ _ (by omega) hm]
  have hle : W &&& (18446744073709551615 - (2 ^ b.toNat - 1) * 2 ^ a.toNat) ≤ W := Nat.and_le_left
  rw [u64_or_nat _ _ (by omega) hs]
  unfold withI withN
  rw [Int.toNat_natCast, Int.toNat_natCast]

theorem field_bit (w a b i : Nat) : (fieldN w a b).testBit i = (decide (i < b) && w.testBit (a + i)) := by
  unfold fieldN
  rw [Nat.testBit_mod_two_pow, Nat.testBit_div_two_pow, Nat.add_comm]

theorem with_bit (w a b v i : Nat) (hw : w < 2 ^ 64) (hv : v < 2 ^ b) (ab : a + b ≤ 64) :
    (withN w a b v).testBit i = if a ≤ i ∧ i < a + b then v.testBit (i - a) else w.testBit i := by
  unfold withN
  have hp : 0 < 2 ^ b := Nat.two_pow_pos _
  have hm : (2 ^ b - 1) * 2 ^ a < 2 ^ 64 := by simpa using mul_pow_lt (x := 2 ^ b - 1) (a := a) (b := b) (by omega) ab
  rw [Nat.testBit_or, Nat.testBit_and, Nat.testBit_mul_two_pow, show 2 ^ 64 - 1 - (2 ^ b - 1) * 2 ^ a = 2 ^ 64 - ((2 ^ b - 1) * 2 ^ a + 1) by omega, Nat.testBit_two_pow_sub_succ hm, Nat.testBit_mul_two_pow, Nat.testBit_two_pow_sub_one]
  by_cases h64 : i < 64
  · by_cases ha : a ≤ i
    · by_cases hb : i < a + b
      · have : i - a < b := by omega
        simp [ha, hb, h64, this]
      · have h2 : ¬ (i - a < b) := by omega
        have h3 : v.testBit (i - a) = false := Nat.testBit_lt_two_pow (Nat.lt_of_lt_of_le hv (Nat.pow_le_pow_right (by decide) (by omega)))
        simp [ha, hb, h64, h2, h3]
    · simp [ha, h64]
  · have h3 : w.testBit i = false := Nat.testBit_lt_two_pow (Nat.lt_of_lt_of_le hw (Nat.pow_le_pow_right (by decide) (by omega)))
    have h4 : ¬ (i < a + b) := by omega
    have h5 : v.testBit (i - a) = false := Nat.testBit_lt_two_pow (Nat.lt_of_lt_of_le hv (Nat.pow_le_pow_right (by decide) (by omega)))
    simp [h3, h4, h5]

theorem field_lt (w a b : Nat) : fieldN w a b < 2 ^ b := Nat.mod_lt _ (Nat.two_pow_pos _)
theorem with_lt (w a b v : Nat) (hw : w < 2 ^ 64) (hv : v < 2 ^ b) (ab : a + b ≤ 64) : withN w a b v < 2 ^ 64 := by
  refine Nat.lt_pow_two_of_testBit _ fun i hi => ?_
  rw [with_bit w a b v i hw hv ab, if_neg (by omega)]
  exact Nat.testBit_lt_two_pow (Nat.lt_of_lt_of_le hw (Nat.pow_le_pow_right (by decide) hi))

theorem bitN_eq (w i : Nat) : bitN w i = (w.testBit i).toNat := by
  unfold bitN
  rw [Nat.testBit_eq_decide_div_mod_eq]
  have : w / 2 ^ i % 2 = 0 ∨ w / 2 ^ i % 2 = 1 := by omega
  rcases this with h | h <;> simp [h]

end Go.Proofs.Ytjdhhnjocfjalaa
