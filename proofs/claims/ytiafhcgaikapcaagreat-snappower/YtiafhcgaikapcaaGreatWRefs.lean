
/-
  The document's answer for fields, bit by bit: what each call of it returns; the world stays as it is.
-/
import Derived.Test.YtiafhcgaikapcaaGreatWCalls
namespace Go.Proofs.YtiafhcgaikapcaaGreat
open Go.ChangeShapes Go.WideShapes Go.ChangeAt Go.RowKit
set_option linter.unusedVariables false

theorem rbit_eq (w i : Int) (h0 : 0 ≤ w) (h1 : w ≤ 18446744073709551615) : bits .and .u64 (w / 2 ^ i.toNat) 1 = bitI w i := by
  have hw : w.toNat / 2 ^ i.toNat ≤ w.toNat := Nat.div_le_self _ _
  rw [shr_cast w _ h0, show (1 : Int) = ((1 : Nat) : Int) by rfl, u64_and_nat _ _ (by omega) (by omega), Nat.and_one_is_mod]
  rfl

theorem rbit_any (w i : Int) (h0 : 0 ≤ w) (h1 : w ≤ 18446744073709551615) (i0 : 0 ≤ i) (i1 : i ≤ 63) (W : World) :
    Calls Tryz.prog 207 #[.int .u64 w, .int .i64 i] W fun e w' => e = .returned (.int .u64 (bitI w i)) ∧ w' = W := by
  go_enter Tryz.func207, Tryz.ntmps207
  go_wp2
  go_ret
  exact ⟨ret_int (rbit_eq w i h0 h1), rfl⟩

theorem wris_any (a b : Int) (w0 : (Lit.int .i64 a).wf = true) (w1 : (Lit.int .i64 b).wf = true) (w : World) :
    Calls Tryz.prog 206 #[.int .i64 a, .int .i64 b] w fun e w' => e = .returned (.bool (isF a b)) ∧ w' = w := by
  go_enter Tryz.func206, Tryz.ntmps206
  go_wp2
  all_goals go_ret
  all_goals refine ⟨ret_bool ?_, rfl⟩
  all_goals unfold isF
  · refine decide_eq_decide.2 ?_; omega
  all_goals (symm; rw [decide_eq_false_iff_not]; omega)

theorem rfield_no (w a b : Int) (wa : (Lit.int .i64 a).wf = true) (wb : (Lit.int .i64 b).wf = true) (h : isF a b = false) (W : World) :
    Calls Tryz.prog 214 #[.int .u64 w, .int .i64 a, .int .i64 b] W fun e w' => e = .returned (.int .u64 0) ∧ w' = W := by
  go_enter Tryz.func214, Tryz.ntmps214
  go_wp2_with (go_at_call 206; refine (wris_any _ _ wa wb _).mono ?_; rintro e w' ⟨rfl, rfl⟩)
  go_ret
  exact ⟨rfl, rfl⟩

theorem bitI_bd (w i : Int) : 0 ≤ bitI w i ∧ bitI w i ≤ 1 := by unfold bitI bitN; omega
theorem field_snoc (w a k : Nat) : fieldN w a (k + 1) = fieldN w a k ||| bitN w (a + k) * 2 ^ k := by
  apply Nat.eq_of_testBit_eq
  intro i
  rw [Nat.testBit_or, field_bit, field_bit, Nat.testBit_mul_two_pow, bitN_eq]
  by_cases h1 : i < k
  · have : i < k + 1 := by omega
    have h3 : ¬ k ≤ i := by omega
    simp [h1, this, h3]
  · by_cases h2 : i = k
    · subst h2
      cases hb : w.testBit (a + i) <;> simp
    · have h3 : ¬ i < k + 1 := by omega
      have h4 : k ≤ i := by omega
      have h5 : i - k ≠ 0 := by omega
      cases hb : w.testBit (a + k)
      · simp [h1, h3]
      · simp only [h1, h3, h4, Bool.toNat_true, decide_false, decide_true, Bool.false_and, Bool.true_and, Bool.false_or]
        symm; rw [Bool.eq_false_iff]; intro hc; exact h5 (Nat.testBit_one_eq_true_iff_self_eq_zero.1 hc)

theorem rfield_step (w a : Int) (k : Nat) (h0 : 0 ≤ w) (h1 : w ≤ 18446744073709551615) (a0 : 0 ≤ a) (hk : k < 64) :
    bits .or .u64 (fieldI w a k) (IntKind.u64.wrap (bitI w (a + k) * 2 ^ ((k : Int)).toNat)) = fieldI w a ((k + 1 : Nat) : Int) := by
  have hf := fieldI_bd w a k h0 h1
  have hb := bitI_bd w (a + k)
  have hlt : bitN w.toNat (a.toNat + k) * 2 ^ k < 18446744073709551616 := mul_pow_lt (b := 1) (by unfold bitN; omega) (by omega)
  have e1 : bitI w (a + k) * 2 ^ ((k : Int)).toNat = ((bitN w.toNat (a.toNat + k) * 2 ^ k : Nat) : Int) := by
    unfold bitI
    rw [show (a + (k : Int)).toNat = a.toNat + k by omega, Int.toNat_natCast, pow_cast, ← Int.natCast_mul]
  rw [e1, IntKind.wrap_u64, Int.emod_eq_of_lt (by omega) (by omega)]
  unfold fieldI at hf ⊢
  rw [u64_or_nat _ _ (by omega) hlt]
  simp only [Int.toNat_natCast]
  rw [field_snoc]

theorem rfield_yes (w a b : Int) (h0 : 0 ≤ w) (h1 : w ≤ 18446744073709551615) (wa : (Lit.int .i64 a).wf = true) (wb : (Lit.int .i64 b).wf = true) (h : isF a b = true) (W : World) :
    Calls Tryz.prog 214 #[.int .u64 w, .int .i64 a, .int .i64 b] W fun e w' => e = .returned (.int .u64 (fieldI w a b)) ∧ w' = W := by
  obtain ⟨a0, b0, b1, ab⟩ := isF_true h
  have a1 : a ≤ 63 := by omega
  go_enter Tryz.func214, Tryz.ntmps214
  go_wp2_with (go_at_call 206; refine (wris_any _ _ wa wb _).mono ?_; rintro e w' ⟨rfl, rfl⟩)
  go_loop [7, 8] (fun o i => ∃ k : Nat, (k : Int) ≤ b ∧ i = .int .i64 k ∧ o = .int .u64 (fieldI w a k)) (fun _ i => (b - intOf i).toNat)
  case atStart => exact ⟨0, by omega, rfl, by simp [fieldI, fieldN, Nat.mod_one]⟩
  case round =>
    obtain ⟨k, hk, rfl, rfl⟩ := hrel
    by_cases hlt : (k : Int) < b
    · have hst := rfield_step w a k h0 h1 a0 (by omega)
      have Hst : Hid (bits .or .u64 (fieldI w a k) (IntKind.u64.wrap (bitI w (a + k) * 2 ^ ((k : Int)).toNat)) = fieldI w a ((k + 1 : Nat) : Int)) := hst
      clear hst
      go_wp2_with (go_at_call 207; refine (rbit_any _ _ h0 h1 (by omega) (by omega) _).mono ?_; rintro e w' ⟨rfl, rfl⟩)
      go_round
      case rel => exact ⟨k + 1, by omega, by go_num, by rw [← Hst.out]; rfl⟩
      case measure => simp [intOf]; omega
    · have hkb : (k : Int) = b := by omega
      have Hkb : Hid ((k : Int) = b) := hkb
      clear hkb
      go_wp2
      go_ret
      exact ⟨ret_int (by rw [Hkb.out]), rfl⟩

theorem rwith_no (w a b v : Int) (wa : (Lit.int .i64 a).wf = true) (wb : (Lit.int .i64 b).wf = true) (h : isF a b = false) (W : World) :
    Calls Tryz.prog 181 #[.int .u64 w, .int .i64 a, .int .i64 b, .int .u64 v] W fun e w' => e = .returned (.tuple #[.int .u64 0, .int .i64 1]) ∧ w' = W := by
  go_enter Tryz.func181, Tryz.ntmps181
  go_wp2_with (go_at_call 206; refine (wris_any _ _ wa wb _).mono ?_; rintro e w' ⟨rfl, rfl⟩)
  go_ret2
  exact ⟨rfl, rfl⟩

/-- no bit of v from b on, below k -/
def cleanTo (v b : Int) (k : Nat) : Prop := ∀ j : Nat, b.toNat ≤ j → j < k → v.toNat.testBit j = false

theorem bitI_zero (v : Int) (k : Nat) (h : v.toNat.testBit k = false) : bitI v k = 0 := by
  unfold bitI; rw [Int.toNat_natCast, bitN_eq, h]; rfl
theorem bitI_one (v : Int) (k : Nat) (h : v.toNat.testBit k = true) : bitI v k = 1 := by
  unfold bitI; rw [Int.toNat_natCast, bitN_eq, h]; rfl

theorem rwith_long (w a b v : Int) (v0 : 0 ≤ v) (v1 : v ≤ 18446744073709551615) (wa : (Lit.int .i64 a).wf = true) (wb : (Lit.int .i64 b).wf = true) (h : isF a b = true) (hv : lowI b < v) (W : World) :
    Calls Tryz.prog 181 #[.int .u64 w, .int .i64 a, .int .i64 b, .int .u64 v] W fun e w' => e = .returned (.tuple #[.int .u64 0, .int .i64 2]) ∧ w' = W := by
  obtain ⟨a0, b0, b1, ab⟩ := isF_true h
  go_enter Tryz.func181, Tryz.ntmps181
  go_wp2_with (go_at_call 206; refine (wris_any _ _ wa wb _).mono ?_; rintro e w' ⟨rfl, rfl⟩)
  go_loop [10] (fun i => ∃ k : Nat, b ≤ (k : Int) ∧ k ≤ 64 ∧ i = .int .i64 k ∧ cleanTo v b k) (fun i => (64 - intOf i).toNat)
  case atStart => exact ⟨b.toNat, by omega, by omega, by rw [show ((b.toNat : Nat) : Int) = b by omega], fun j h1 h2 => by omega⟩
  case round =>
    obtain ⟨k, hk, hk2, rfl, hcl⟩ := hrel
    by_cases hlt : k < 64
    · by_cases hb : v.toNat.testBit k = true
      · have e1 : (bitI v k == 1) = true := by rw [bitI_one v k hb]; rfl
        clear hb
        go_wp2_with (go_at_call 207; refine (rbit_any _ _ v0 v1 (by omega) (by omega) _).mono ?_; rintro e w' ⟨rfl, rfl⟩)
        go_ret2
        exact ⟨rfl, rfl⟩
      · have hb' : v.toNat.testBit k = false := by simpa using hb
        have e1 : (bitI v k == 1) = false := by rw [bitI_zero v k hb']; rfl
        have Hb : Hid (v.toNat.testBit k = false) := hb'
        have Hcl : Hid (cleanTo v b k) := hcl
        clear hb hb' hcl
        go_wp2_with (go_at_call 207; refine (rbit_any _ _ v0 v1 (by omega) (by omega) _).mono ?_; rintro e w' ⟨rfl, rfl⟩)
        go_round
        case rel => exact ⟨k + 1, by omega, by omega, by go_num, fun j h1 h2 => if hj : j = k then hj ▸ Hb.out else Hcl.out j h1 (by omega)⟩
        case measure => simp [intOf]; omega
    · exfalso
      have hlow := (le_low v b v0).2 (Nat.lt_pow_two_of_testBit _ fun i hi => by
        by_cases h64 : i < 64
        · exact hcl i hi (by omega)
        · refine Nat.testBit_lt_two_pow (Nat.lt_of_lt_of_le (m := 2 ^ 64) (by omega) (Nat.pow_le_pow_right (by decide) (by omega))))
      omega

def partN (w a v k : Nat) : Nat := withN w a k (v % 2 ^ k)
def partI (w a v : Int) (k : Nat) : Int := ((partN w.toNat a.toNat v.toNat k : Nat) : Int)

theorem part_bit (w a v k i : Nat) (hw : w < 2 ^ 64) (ak : a + k ≤ 64) : (partN w a v k).testBit i = if a ≤ i ∧ i < a + k then v.testBit (i - a) else w.testBit i := by
  unfold partN
  rw [with_bit w a k _ i hw (Nat.mod_lt _ (Nat.two_pow_pos _)) ak]
  by_cases h : a ≤ i ∧ i < a + k
  · rw [if_pos h, if_pos h, Nat.testBit_mod_two_pow]
    have : i - a < k := by omega
    simp [this]
  · rw [if_neg h, if_neg h]

theorem part_lt (w a v k : Nat) (hw : w < 2 ^ 64) (ak : a + k ≤ 64) : partN w a v k < 2 ^ 64 :=
  with_lt w a k _ hw (Nat.mod_lt _ (Nat.two_pow_pos _)) ak

theorem part_keep (w a v k : Nat) (hw : w < 2 ^ 64) (ak : a + k + 1 ≤ 64) (h : bitN v k = bitN (partN w a v k) (a + k)) : partN w a v (k + 1) = partN w a v k := by
  apply Nat.eq_of_testBit_eq
  intro i
  rw [bitN_eq, bitN_eq, part_bit w a v k _ hw (by omega), if_neg (by omega)] at h
  have h' : v.testBit k = w.testBit (a + k) := by
    cases e1 : v.testBit k <;> cases e2 : w.testBit (a + k) <;> simp_all
  rw [part_bit w a v _ i hw (by omega), part_bit w a v _ i hw (by omega)]
  by_cases h1 : i = a + k
  · subst h1
    rw [if_pos (by omega), if_neg (by omega), ← h']
    congr 1; omega
  · by_cases h2 : a ≤ i ∧ i < a + k
    · rw [if_pos (by omega), if_pos h2]
    · rw [if_neg (by omega), if_neg h2]

theorem part_flip (w a v k : Nat) (hw : w < 2 ^ 64) (ak : a + k + 1 ≤ 64) (h : bitN v k ≠ bitN (partN w a v k) (a + k)) : partN w a v (k + 1) = partN w a v k ^^^ 2 ^ (a + k) := by
  apply Nat.eq_of_testBit_eq
  intro i
  rw [bitN_eq, bitN_eq, part_bit w a v k _ hw (by omega), if_neg (by omega)] at h
  have h' : v.testBit k = !w.testBit (a + k) := by
    cases e1 : v.testBit k <;> cases e2 : w.testBit (a + k) <;> simp_all
  rw [Nat.testBit_xor, Nat.testBit_two_pow, part_bit w a v _ i hw (by omega), part_bit w a v _ i hw (by omega)]
  by_cases h1 : i = a + k
  · subst h1
    rw [if_pos (by omega), if_neg (by omega)]
    have : a + k - a = k := by omega
    rw [this, h']; simp
  · have h3 : ¬ (a + k = i) := by omega
    by_cases h2 : a ≤ i ∧ i < a + k
    · rw [if_pos (by omega), if_pos h2]; simp [h3]
    · rw [if_neg (by omega), if_neg h2]; simp [h3]

theorem part_zero (w a v : Nat) (hw : w < 2 ^ 64) (ha : a ≤ 64) : partN w a v 0 = w := by
  apply Nat.eq_of_testBit_eq
  intro i
  rw [part_bit w a v 0 i hw (by omega), if_neg (by omega)]

theorem partI_bd (w a v : Int) (k : Nat) (h1 : w ≤ 18446744073709551615) (a0 : 0 ≤ a) (ak : a + k ≤ 64) : 0 ≤ partI w a v k ∧ partI w a v k ≤ 18446744073709551615 := by
  have := part_lt w.toNat a.toNat v.toNat k (by omega) (by omega)
  unfold partI; omega

theorem rwith_flip (w a v : Int) (k : Nat) (h1 : w ≤ 18446744073709551615) (a0 : 0 ≤ a) (ak : a + k + 1 ≤ 64) (h : (bitI v k != bitI (partI w a v k) (a + k)) = true) :
    bits .xor .u64 (partI w a v k) (IntKind.u64.wrap (2 ^ (a + (k : Int)).toNat)) = partI w a v (k + 1) := by
  have hp := partI_bd w a v k h1 a0 (by omega)
  have hne : bitN v.toNat k ≠ bitN (partN w.toNat a.toNat v.toNat k) (a.toNat + k) := by
    intro hc
    rw [bne_iff_ne] at h
    apply h
    unfold bitI partI
    rw [Int.toNat_natCast, Int.toNat_natCast, show (a + (k : Int)).toNat = a.toNat + k by omega, hc]
  have hfl := part_flip w.toNat a.toNat v.toNat k (by omega) (by omega) hne
  have h2 : 2 ^ (a.toNat + k) < 18446744073709551616 := by
    have := Nat.pow_lt_pow_of_lt (a := 2) (n := a.toNat + k) (m := 64) (by decide) (by omega)
    simpa using this
  have e1 : (2 : Int) ^ (a + (k : Int)).toNat = ((2 ^ (a.toNat + k) : Nat) : Int) := by
    rw [pow_cast, show (a + (k : Int)).toNat = a.toNat + k by omega]
  rw [e1, IntKind.wrap_u64, Int.emod_eq_of_lt (Int.natCast_nonneg _) (by omega)]
  unfold partI at hp ⊢
  rw [u64_xor_nat _ _ (by omega) h2, hfl]

theorem rwith_keep (w a v : Int) (k : Nat) (h1 : w ≤ 18446744073709551615) (a0 : 0 ≤ a) (ak : a + k + 1 ≤ 64) (h : (bitI v k != bitI (partI w a v k) (a + k)) = false) :
    partI w a v k = partI w a v (k + 1) := by
  have heq : bitN v.toNat k = bitN (partN w.toNat a.toNat v.toNat k) (a.toNat + k) := by
    have h' : bitI v k = bitI (partI w a v k) (a + k) := by simpa using h
    unfold bitI partI at h'
    rw [Int.toNat_natCast, Int.toNat_natCast, show (a + (k : Int)).toNat = a.toNat + k by omega] at h'
    omega
  unfold partI
  rw [part_keep w.toNat a.toNat v.toNat k (by omega) (by omega) heq]

theorem part_end (w a b v : Int) (v0 : 0 ≤ v) (hv : v ≤ lowI b) (k : Nat) (hk : (k : Int) = b) : partI w a v k = withI w a b v := by
  have hv' := (le_low v b v0).1 hv
  have : b.toNat = k := by omega
  unfold partI withI partN
  rw [this] at hv' ⊢
  rw [Nat.mod_eq_of_lt hv']

theorem rwith_yes (w a b v : Int) (h0 : 0 ≤ w) (h1 : w ≤ 18446744073709551615) (v0 : 0 ≤ v) (v1 : v ≤ 18446744073709551615) (wa : (Lit.int .i64 a).wf = true) (wb : (Lit.int .i64 b).wf = true) (h : isF a b = true) (hv : v ≤ lowI b) (W : World) :
    Calls Tryz.prog 181 #[.int .u64 w, .int .i64 a, .int .i64 b, .int .u64 v] W fun e w' => e = .returned (.tuple #[.int .u64 (withI w a b v), .int .i64 0]) ∧ w' = W := by
  obtain ⟨a0, b0, b1, ab⟩ := isF_true h
  have hv2 := (le_low v b v0).1 hv
  have Hv : Hid (v.toNat < 2 ^ b.toNat) := hv2
  have Hl : Hid (v ≤ lowI b) := hv
  clear hv hv2
  go_enter Tryz.func181, Tryz.ntmps181
  go_wp2_with (go_at_call 206; refine (wris_any _ _ wa wb _).mono ?_; rintro e w' ⟨rfl, rfl⟩)
  go_loop [10] (fun i => ∃ k : Nat, b ≤ (k : Int) ∧ k ≤ 64 ∧ i = .int .i64 k) (fun i => (64 - intOf i).toNat)
  case atStart => exact ⟨b.toNat, by omega, by omega, by rw [show ((b.toNat : Nat) : Int) = b by omega]⟩
  case round =>
    obtain ⟨k, hk, hk2, rfl⟩ := hrel
    by_cases hlt : k < 64
    · have e1 : (bitI v k == 1) = false := by
        rw [bitI_zero v k (Nat.testBit_lt_two_pow (Nat.lt_of_lt_of_le Hv.out (Nat.pow_le_pow_right (by decide) (by omega))))]; rfl
      go_wp2_with (go_at_call 207; refine (rbit_any _ _ v0 v1 (by omega) (by omega) _).mono ?_; rintro e w' ⟨rfl, rfl⟩)
      go_round
      case rel => exact ⟨k + 1, by omega, by omega, by go_num⟩
      case measure => simp [intOf]; omega
    · go_wp2
      go_loop [0, 11] (fun o i => ∃ k : Nat, (k : Int) ≤ b ∧ i = .int .i64 k ∧ o = .int .u64 (partI w a v k)) (fun _ i => (b - intOf i).toNat)
      case atStart => exact ⟨0, by omega, rfl, by unfold partI; rw [part_zero _ _ _ (by omega) (by omega), show ((w.toNat : Nat) : Int) = w by omega]⟩
      case round =>
        obtain ⟨k, hk, rfl, rfl⟩ := hrel
        by_cases hlt2 : (k : Int) < b
        · obtain ⟨q0, q1⟩ := partI_bd w a v k h1 a0 (by omega)
          cases hb : (bitI v k != bitI (partI w a v k) (a + k))
          · have Hk : Hid (partI w a v k = partI w a v (k + 1)) := rwith_keep w a v k h1 a0 (by omega) hb
            go_wp2_with fail
            refine (rbit_any _ _ v0 v1 (by omega) (by omega) _).mono ?_
            rintro e w' ⟨rfl, rfl⟩
            go_wp2_with fail
            refine (rbit_any _ _ q0 q1 (by omega) (by omega) _).mono ?_
            rintro e w' ⟨rfl, rfl⟩
            go_wp2_with fail
            go_round
            case rel => exact ⟨k + 1, by omega, by go_num, by rw [← Hk.out]⟩
            case measure => simp [intOf]; omega
          · have Hk : Hid (bits .xor .u64 (partI w a v k) (IntKind.u64.wrap (2 ^ (a + (k : Int)).toNat)) = partI w a v (k + 1)) := rwith_flip w a v k h1 a0 (by omega) hb
            go_wp2_with fail
            refine (rbit_any _ _ v0 v1 (by omega) (by omega) _).mono ?_
            rintro e w' ⟨rfl, rfl⟩
            go_wp2_with fail
            refine (rbit_any _ _ q0 q1 (by omega) (by omega) _).mono ?_
            rintro e w' ⟨rfl, rfl⟩
            go_wp2_with fail
            go_round
            case rel => exact ⟨k + 1, by omega, by go_num, by rw [← Hk.out]⟩
            case measure => simp [intOf]; omega
        · have Hend : Hid (partI w a v k = withI w a b v) := part_end w a b v v0 Hl.out k (by omega)
          go_wp2
          go_ret2
          exact ⟨ret_two Hend.out, rfl⟩

end Go.Proofs.YtiafhcgaikapcaaGreat
