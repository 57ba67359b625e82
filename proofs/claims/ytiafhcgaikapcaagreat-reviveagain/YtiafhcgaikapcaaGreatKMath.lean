
/-
  Capabilities in plain mathematics: which may be, their words, what a word is read as, rights and what is within what. No program.
-/
import Derived.Test.YtiafhcgaikapcaaGreatWMath
import Derived.Test.YtiafhcgaikapcaaGreatRows2
namespace Go.Proofs.YtiafhcgaikapcaaGreat
set_option linter.unusedVariables false

/-- A capability: kind, rights, object, version, badge. -/
structure Cp where
  k : Int
  r : Int
  i : Int
  v : Int
  b : Int
theorem Cp.ext' {c d : Cp} (h1 : c.k = d.k) (h2 : c.r = d.r) (h3 : c.i = d.i) (h4 : c.v = d.v) (h5 : c.b = d.b) : c = d := by
  cases c; cases d; simp_all
instance : DecidableEq Cp := fun a b => decidable_of_iff (a.k = b.k ∧ a.r = b.r ∧ a.i = b.i ∧ a.v = b.v ∧ a.b = b.b) (by
  cases a; cases b; simp)
def zc : Cp := ⟨0, 0, 0, 0, 0⟩
/-- Its cells. -/
def cv (c : Cp) : Array Value := #[.int .i64 c.k, .int .i64 c.r, .int .i64 c.i, .int .i64 c.v, .int .i64 c.b]
theorem cv_size (c : Cp) : (cv c).size = 5 := rfl
theorem cv_one (c : Cp) : (cv c).all (·.oneCell') = true := by simp [cv, Value.oneCell']

def tgC (k i v : Int) : Bool := decide (0 ≤ i ∧ i < 49 ∧ 0 ≤ v ∧ v ≤ 16777215 ∧ (5 ≤ k → i = 0 ∧ v = 0))
def rtB (x : Int) : Bool := decide (0 ≤ x ∧ x ≤ 15)
def bdB (x : Int) : Bool := decide (0 ≤ x ∧ x ≤ 65535)
theorem rtB_iff (x : Int) : rtB x = true ↔ 0 ≤ x ∧ x ≤ 15 := by unfold rtB; rw [decide_eq_true_iff]
theorem bdB_iff (x : Int) : bdB x = true ↔ 0 ≤ x ∧ x ≤ 65535 := by unfold bdB; rw [decide_eq_true_iff]
theorem tgC_iff (k i v : Int) : tgC k i v = true ↔ 0 ≤ i ∧ i < 49 ∧ 0 ≤ v ∧ v ≤ 16777215 ∧ (5 ≤ k → i = 0 ∧ v = 0) := by unfold tgC; rw [decide_eq_true_iff]
theorem tgC_false {k i v : Int} (h : ¬ (0 ≤ i ∧ i < 49 ∧ 0 ≤ v ∧ v ≤ 16777215 ∧ (5 ≤ k → i = 0 ∧ v = 0))) : tgC k i v = false := by unfold tgC; exact decide_eq_false h
def mayC (c : Cp) : Bool := decide (1 ≤ c.k ∧ c.k ≤ 6 ∧ 0 ≤ c.r ∧ c.r ≤ 15 ∧ 0 ≤ c.i ∧ c.i < 49 ∧ 0 ≤ c.v ∧ c.v ≤ 16777215 ∧ 0 ≤ c.b ∧ c.b ≤ 65535 ∧ (5 ≤ c.k → c.i = 0 ∧ c.v = 0))
theorem mayC_iff (c : Cp) : mayC c = true ↔ 1 ≤ c.k ∧ c.k ≤ 6 ∧ 0 ≤ c.r ∧ c.r ≤ 15 ∧ 0 ≤ c.i ∧ c.i < 49 ∧ 0 ≤ c.v ∧ c.v ≤ 16777215 ∧ 0 ≤ c.b ∧ c.b ≤ 65535 ∧ (5 ≤ c.k → c.i = 0 ∧ c.v = 0) := by
  unfold mayC; rw [decide_eq_true_iff]
theorem mayC_parts (k r i v b : Int) : mayC ⟨k, r, i, v, b⟩ = (decide (1 ≤ k ∧ k ≤ 6) && rtB r && bdB b && tgC k i v) := by
  rw [Bool.eq_iff_iff, mayC_iff]
  simp only [Bool.and_eq_true, rtB_iff, bdB_iff, tgC_iff, decide_eq_true_iff]
  omega
def wordC (c : Cp) : Int := c.k + c.r * 16 + c.i * 256 + c.v * 16777216 + c.b * 281474976710656
def wordV (c : Cp) : Int := if mayC c then wordC c else 0
def wordE (c : Cp) : Int := if mayC c then 0 else 1
def ofC (w : Int) : Cp := ⟨fieldI w 0 4, fieldI w 4 4, fieldI w 8 16, fieldI w 24 24, fieldI w 48 16⟩
def isC (w : Int) : Bool := mayC (ofC w)
def ofV (w : Int) : Cp := if isC w then ofC w else zc

theorem f0 (w : Int) (h : 0 ≤ w) : fieldI w 0 4 = w % 16 := by unfold fieldI fieldN; simp; omega
theorem f1 (w : Int) (h : 0 ≤ w) : fieldI w 4 4 = w / 16 % 16 := by unfold fieldI fieldN; simp; omega
theorem f2 (w : Int) (h : 0 ≤ w) : fieldI w 8 16 = w / 256 % 65536 := by unfold fieldI fieldN; simp; omega
theorem f3 (w : Int) (h : 0 ≤ w) : fieldI w 24 24 = w / 16777216 % 16777216 := by unfold fieldI fieldN; simp; omega
theorem f4 (w : Int) (h : 0 ≤ w) : fieldI w 48 16 = w / 281474976710656 % 65536 := by unfold fieldI fieldN; simp; omega
theorem wordC_bd (c : Cp) (hm : mayC c = true) : 1 ≤ wordC c ∧ wordC c ≤ 18446744073709551615 := by
  have h := (mayC_iff c).1 hm
  unfold wordC; omega
/-- A capability that may be is read from its word as it was. -/
theorem ofC_word (c : Cp) (hm : mayC c = true) : ofC (wordC c) = c := by
  have h := (mayC_iff c).1 hm
  have hb := wordC_bd c hm
  have e : wordC c = c.k + c.r * 16 + c.i * 256 + c.v * 16777216 + c.b * 281474976710656 := rfl
  unfold ofC
  rw [f0 _ (by omega), f1 _ (by omega), f2 _ (by omega), f3 _ (by omega), f4 _ (by omega)]
  apply Cp.ext'
  · show wordC c % 16 = c.k; omega
  · show wordC c / 16 % 16 = c.r; omega
  · show wordC c / 256 % 65536 = c.i; omega
  · show wordC c / 16777216 % 16777216 = c.v; omega
  · show wordC c / 281474976710656 % 65536 = c.b; omega
/-- Every word is made of its parts. -/
theorem wordC_of (w : Int) (h0 : 0 ≤ w) (h1 : w ≤ 18446744073709551615) : wordC (ofC w) = w := by
  unfold wordC ofC
  rw [f0 _ (by omega), f1 _ (by omega), f2 _ (by omega), f3 _ (by omega), f4 _ (by omega)]
  show w % 16 + w / 16 % 16 * 16 + w / 256 % 65536 * 256 + w / 16777216 % 16777216 * 16777216 + w / 281474976710656 % 65536 * 281474976710656 = w
  omega
theorem isC_word (c : Cp) (hm : mayC c = true) : isC (wordC c) = true := by unfold isC; rw [ofC_word c hm]; exact hm
theorem ofV_word (c : Cp) (hm : mayC c = true) : ofV (wordC c) = c := by unfold ofV; rw [if_pos (isC_word c hm), ofC_word c hm]
theorem wordV_may (c : Cp) (hm : mayC c = true) : wordV c = wordC c := by simp [wordV, hm]
theorem wordE_may (c : Cp) (hm : mayC c = true) : wordE c = 0 := by simp [wordE, hm]
theorem wordV_not (c : Cp) (hm : mayC c = false) : wordV c = 0 := by simp [wordV, hm]
theorem wordE_not (c : Cp) (hm : mayC c = false) : wordE c = 1 := by simp [wordE, hm]
theorem ofV_is (w : Int) (h : isC w = true) : ofV w = ofC w := by simp [ofV, h]
theorem ofV_not (w : Int) (h : isC w = false) : ofV w = zc := by simp [ofV, h]
theorem wordC_inj (c d : Cp) (hm : mayC c = true) (hn : mayC d = true) (h : wordC c = wordC d) : c = d := by
  rw [← ofC_word c hm, h, ofC_word d hn]
theorem isC_zero : isC 0 = false := by decide
theorem ofC_bd (w : Int) (h0 : 0 ≤ w) : 0 ≤ (ofC w).k ∧ (ofC w).k ≤ 15 ∧ 0 ≤ (ofC w).r ∧ (ofC w).r ≤ 15 ∧ 0 ≤ (ofC w).i ∧ (ofC w).i ≤ 65535 ∧ 0 ≤ (ofC w).v ∧ (ofC w).v ≤ 16777215 ∧ 0 ≤ (ofC w).b ∧ (ofC w).b ≤ 65535 := by
  unfold ofC
  rw [f0 _ (by omega), f1 _ (by omega), f2 _ (by omega), f3 _ (by omega), f4 _ (by omega)]
  show 0 ≤ w % 16 ∧ w % 16 ≤ 15 ∧ 0 ≤ w / 16 % 16 ∧ w / 16 % 16 ≤ 15 ∧ 0 ≤ w / 256 % 65536 ∧ w / 256 % 65536 ≤ 65535 ∧ 0 ≤ w / 16777216 % 16777216 ∧ w / 16777216 % 16777216 ≤ 16777215 ∧ 0 ≤ w / 281474976710656 % 65536 ∧ w / 281474976710656 % 65536 ≤ 65535
  omega

/-! ### a field set where nothing lies above -/
theorem or_top (x y p : Int) (n : Nat) (hp : p = ((2 ^ n : Nat) : Int)) (h0 : 0 ≤ x) (h1 : x < p) (h2 : 0 ≤ y) (h3 : y * p ≤ 18446744073709551615) (h4 : p ≤ 18446744073709551615) : bits .or .u64 x (y * p) = x + y * p := by
  obtain ⟨X, rfl⟩ := Int.eq_ofNat_of_zero_le h0
  obtain ⟨Y, rfl⟩ := Int.eq_ofNat_of_zero_le h2
  subst hp
  rw [← Int.natCast_mul] at h3 ⊢
  rw [u64_or_nat X (Y * 2 ^ n) (by omega) (by omega), Nat.or_comm, nat_join n (Y * 2 ^ n) X (Nat.mul_mod_left _ _) (by omega)]
  omega
theorem word_or (k r i v b : Int) (h1 : 1 ≤ k) (h2 : k ≤ 6) (h3 : 0 ≤ r) (h4 : r ≤ 15) (h5 : 0 ≤ i) (h6 : i < 49) (h7 : 0 ≤ v) (h8 : v ≤ 16777215) (h9 : 0 ≤ b) (h10 : b ≤ 65535) :
    bits .or .u64 (bits .or .u64 (bits .or .u64 (bits .or .u64 k (r * 16)) (i * 256)) (v * 16777216)) (b * 281474976710656) = wordC ⟨k, r, i, v, b⟩ := by
  rw [or_top k r 16 4 rfl (by omega) (by omega) h3 (by omega) (by omega)]
  rw [or_top (k + r * 16) i 256 8 rfl (by omega) (by omega) h5 (by omega) (by omega)]
  rw [or_top (k + r * 16 + i * 256) v 16777216 24 rfl (by omega) (by omega) h7 (by omega) (by omega)]
  rw [or_top (k + r * 16 + i * 256 + v * 16777216) b 281474976710656 48 rfl (by omega) (by omega) h9 (by omega) (by omega)]
  rfl
theorem with_top (w a b v : Nat) (hw : w < 2 ^ a) (hv : v < 2 ^ b) (ab : a + b ≤ 64) : withN w a b v = w + v * 2 ^ a := by
  have h64 : w < 2 ^ 64 := Nat.lt_of_lt_of_le hw (Nat.pow_le_pow_right (by decide) (by omega))
  apply Nat.eq_of_testBit_eq
  intro j
  rw [with_bit w a b v j h64 hv ab, Nat.add_comm w, Nat.mul_comm v, Nat.testBit_two_pow_mul_add _ hw]
  by_cases h1 : j < a
  · rw [if_neg (by omega), if_pos h1]
  · rw [if_neg h1]
    by_cases h2 : j < a + b
    · rw [if_pos (by omega)]
    · rw [if_neg (by omega), Nat.testBit_lt_two_pow (Nat.lt_of_lt_of_le hw (Nat.pow_le_pow_right (by decide) (by omega))), Nat.testBit_lt_two_pow (Nat.lt_of_lt_of_le hv (Nat.pow_le_pow_right (by decide) (by omega)))]
theorem withI_top (w a b v : Int) (A B : Nat) (ha : a.toNat = A) (hb : b.toNat = B) (h0 : 0 ≤ w) (hw : w < ((2 ^ A : Nat) : Int)) (v0 : 0 ≤ v) (hv : v < ((2 ^ B : Nat) : Int)) (ab : A + B ≤ 64) : withI w a b v = w + v * ((2 ^ A : Nat) : Int) := by
  unfold withI
  rw [ha, hb, with_top w.toNat A B v.toNat (by omega) (by omega) ab]
  rw [Int.natCast_add, Int.natCast_mul, Int.toNat_of_nonneg h0, Int.toNat_of_nonneg v0]

/-! ### rights -/
theorem i64_back (n : Int) : BitVec.ofInt 64 (IntKind.i64.wrap n) = BitVec.ofInt 64 n := by
  apply BitVec.eq_of_toInt_eq
  rw [BitVec.toInt_ofInt, BitVec.toInt_ofInt, IntKind.wrap_i64]
  simp only [Int.bmod]
  omega
theorem i64_wrap_bv (x : BitVec 64) : BitVec.ofInt 64 (IntKind.i64.wrap (x.toNat : Int)) = x := by
  rw [i64_back, BitVec.ofInt_natCast, BitVec.ofNat_toNat, BitVec.setWidth_eq]
theorem ofInt_inj {a b : Int} (ha : -9223372036854775808 ≤ a ∧ a ≤ 9223372036854775807) (hb : -9223372036854775808 ≤ b ∧ b ≤ 9223372036854775807) (h : BitVec.ofInt 64 a = BitVec.ofInt 64 b) : a = b := by
  have h2 := congrArg BitVec.toInt h
  rw [BitVec.toInt_ofInt, BitVec.toInt_ofInt] at h2
  simp only [Int.bmod] at h2
  omega
theorem i64_bd (x : BitVec 64) : -9223372036854775808 ≤ IntKind.i64.wrap (x.toNat : Int) ∧ IntKind.i64.wrap (x.toNat : Int) ≤ 9223372036854775807 := by
  rw [IntKind.wrap_i64]; omega
theorem bv_and (a b : Int) : BitVec.ofInt 64 (bits .and .i64 a b) = BitVec.ofInt 64 a &&& BitVec.ofInt 64 b := i64_wrap_bv _
theorem bv_andNot (a b : Int) : BitVec.ofInt 64 (bits .andNot .i64 a b) = BitVec.ofInt 64 a &&& ~~~BitVec.ofInt 64 b := i64_wrap_bv _
theorem bv_or (a b : Int) : BitVec.ofInt 64 (bits .or .i64 a b) = BitVec.ofInt 64 a ||| BitVec.ofInt 64 b := i64_wrap_bv _
theorem and_rng (a b : Int) : -9223372036854775808 ≤ bits .and .i64 a b ∧ bits .and .i64 a b ≤ 9223372036854775807 := i64_bd _
theorem andNot_rng (a b : Int) : -9223372036854775808 ≤ bits .andNot .i64 a b ∧ bits .andNot .i64 a b ≤ 9223372036854775807 := i64_bd _
theorem or_rng (a b : Int) : -9223372036854775808 ≤ bits .or .i64 a b ∧ bits .or .i64 a b ≤ 9223372036854775807 := i64_bd _
/-- All rights of x are rights of h. -/
def hasI (h x : Int) : Bool := decide (BitVec.ofInt 64 h &&& BitVec.ofInt 64 x = BitVec.ofInt 64 x)
theorem hasI_iff (h x : Int) : hasI h x = true ↔ BitVec.ofInt 64 h &&& BitVec.ofInt 64 x = BitVec.ofInt 64 x := by unfold hasI; rw [decide_eq_true_iff]
theorem bv_not_and (x y : BitVec 64) : x &&& ~~~y = 0#64 ↔ y &&& x = x := by
  constructor
  · intro h
    apply BitVec.eq_of_getLsbD_eq
    intro i hi
    have := congrArg (fun z => z.getLsbD i) h
    simp [hi] at this ⊢
    exact this
  · intro h
    apply BitVec.eq_of_getLsbD_eq
    intro i hi
    have := congrArg (fun z => z.getLsbD i) h
    simp [hi] at this ⊢
    exact this
theorem bv_or_and (x y : BitVec 64) : y ||| x = y ↔ y &&& x = x := by
  constructor
  · intro h
    apply BitVec.eq_of_getLsbD_eq
    intro i hi
    have := congrArg (fun z => z.getLsbD i) h
    simp at this ⊢
    exact this
  · intro h
    apply BitVec.eq_of_getLsbD_eq
    intro i hi
    have := congrArg (fun z => z.getLsbD i) h
    simp at this ⊢
    exact this
theorem has_andNot (h x : Int) : (bits .andNot .i64 x h == 0) = hasI h x := by
  rw [Bool.eq_iff_iff, hasI_iff, beq_iff_eq, ← bv_not_and, ← bv_andNot]
  constructor
  · intro e; rw [e]; rfl
  · intro e; exact ofInt_inj (andNot_rng _ _) (by omega) e
theorem has_and (h x : Int) (hx : -9223372036854775808 ≤ x ∧ x ≤ 9223372036854775807) : (bits .and .i64 h x == x) = hasI h x := by
  rw [Bool.eq_iff_iff, hasI_iff, beq_iff_eq, ← bv_and]
  constructor
  · intro e; rw [e]
  · intro e; exact ofInt_inj (and_rng _ _) hx e
theorem and_comm64 (h x : Int) : bits .and .i64 h x = bits .and .i64 x h :=
  ofInt_inj (and_rng _ _) (and_rng _ _) (by rw [bv_and, bv_and, BitVec.and_comm])
theorem has_and' (h x : Int) (hx : -9223372036854775808 ≤ x ∧ x ≤ 9223372036854775807) : (bits .and .i64 x h == x) = hasI h x := by
  rw [and_comm64]; exact has_and h x hx
theorem has_or (h x : Int) (hh : -9223372036854775808 ≤ h ∧ h ≤ 9223372036854775807) : (bits .or .i64 h x == h) = hasI h x := by
  rw [Bool.eq_iff_iff, hasI_iff, beq_iff_eq, ← bv_or_and, ← bv_or]
  constructor
  · intro e; rw [e]
  · intro e; exact ofInt_inj (or_rng _ _) hh e
theorem has_refl (h : Int) : hasI h h = true := by rw [hasI_iff, BitVec.and_self]
theorem has_zero (h : Int) : hasI h 0 = true := by rw [hasI_iff]; simp
theorem has_trans (a b c : Int) (h1 : hasI b a = true) (h2 : hasI c b = true) : hasI c a = true := by
  rw [hasI_iff] at *
  calc BitVec.ofInt 64 c &&& BitVec.ofInt 64 a = BitVec.ofInt 64 c &&& (BitVec.ofInt 64 b &&& BitVec.ofInt 64 a) := by rw [h1]
    _ = BitVec.ofInt 64 c &&& BitVec.ofInt 64 b &&& BitVec.ofInt 64 a := by rw [BitVec.and_assoc]
    _ = BitVec.ofInt 64 a := by rw [h2, h1]
theorem has_anti (a b : Int) (ha : 0 ≤ a ∧ a ≤ 15) (hb : 0 ≤ b ∧ b ≤ 15) (h1 : hasI b a = true) (h2 : hasI a b = true) : a = b := by
  rw [hasI_iff] at *
  refine ofInt_inj (by omega) (by omega) ?_
  rw [← h1, BitVec.and_comm, h2]
theorem has_less (a b : Int) : hasI a (bits .and .i64 a b) = true := by
  rw [hasI_iff, bv_and, ← BitVec.and_assoc, BitVec.and_self]
theorem and_assoc64 (a b c : Int) : bits .and .i64 (bits .and .i64 a b) c = bits .and .i64 a (bits .and .i64 b c) :=
  ofInt_inj (and_rng _ _) (and_rng _ _) (by rw [bv_and, bv_and, bv_and, bv_and, BitVec.and_assoc])
theorem and_bd (a b : Int) (ha : 0 ≤ a ∧ a ≤ 15) : 0 ≤ bits .and .i64 a b ∧ bits .and .i64 a b ≤ 15 := by
  have e : bits .and .i64 a b = IntKind.i64.wrap ((BitVec.ofInt 64 a &&& BitVec.ofInt 64 b).toNat : Int) := rfl
  have h1 : (BitVec.ofInt 64 a).toNat = a.toNat := by rw [BitVec.toNat_ofInt]; omega
  have h2 : (BitVec.ofInt 64 a &&& BitVec.ofInt 64 b).toNat ≤ a.toNat := by
    rw [BitVec.toNat_and, h1]; exact Nat.and_le_left
  rw [e, IntKind.wrap_i64]
  omega

/-! ### the calls -/
/-- What is diminished. -/
def dimC (c : Cp) (x y : Int) : Cp := ⟨c.k, bits .and .i64 c.r x, c.i, c.v, if c.b = 0 then y else c.b⟩
def dimE (w x y : Int) : Int := if isC w then (if rtB x && bdB y then 0 else 1) else 31
def dimV (w x y : Int) : Int := if dimE w x y = 0 then wordC (dimC (ofC w) x y) else 0
def mayE (w k x : Int) : Int := if isC w = true ∧ (ofC w).k = k then (if hasI (ofC w).r x then 0 else 32) else 31
def inB (a b : Int) : Bool := isC a && isC b && decide ((ofC a).k = (ofC b).k ∧ (ofC a).i = (ofC b).i ∧ (ofC a).v = (ofC b).v) && hasI (ofC b).r (ofC a).r
theorem dimC_may (c : Cp) (x y : Int) (hm : mayC c = true) (hy : 0 ≤ y ∧ y ≤ 65535) : mayC (dimC c x y) = true := by
  have h := (mayC_iff c).1 hm
  have hr := and_bd c.r x ⟨h.2.2.1, h.2.2.2.1⟩
  rw [mayC_iff]
  show 1 ≤ c.k ∧ c.k ≤ 6 ∧ 0 ≤ bits .and .i64 c.r x ∧ bits .and .i64 c.r x ≤ 15 ∧ 0 ≤ c.i ∧ c.i < 49 ∧ 0 ≤ c.v ∧ c.v ≤ 16777215 ∧ 0 ≤ (if c.b = 0 then y else c.b) ∧ (if c.b = 0 then y else c.b) ≤ 65535 ∧ (5 ≤ c.k → c.i = 0 ∧ c.v = 0)
  split <;> omega

end Go.Proofs.YtiafhcgaikapcaaGreat
