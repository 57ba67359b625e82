
/-
  Plain mathematics of lines and bytes: eight words as 64 bytes, the lowest byte of each first, and back. No program.
-/
import Derived.Laws.BitsAllLaws
namespace Go.Proofs.YtiafhcgaikapcaaGreat

def byteAt (zs : List Int) (n : Nat) : Int := zs.getD (n / 8) 0 / 2 ^ (n % 8 * 8) % 256
def partB (zs : List Int) (m : Nat) : List Int := (List.range 64).map fun n => if n < m then byteAt zs n else 0
def bytesOf (zs : List Int) : List Int := (List.range 64).map (byteAt zs)
theorem partB_len (zs : List Int) (m : Nat) : (partB zs m).length = 64 := by simp [partB]
theorem bytesOf_len (zs : List Int) : (bytesOf zs).length = 64 := by simp [bytesOf]
theorem partB_zero (zs : List Int) : partB zs 0 = List.replicate 64 0 := by
  unfold partB
  simp only [Nat.not_lt_zero, if_false]
  rw [List.map_const', List.length_range]
theorem partB_all (zs : List Int) : partB zs 64 = bytesOf zs := by
  unfold partB bytesOf
  apply List.map_congr_left
  intro n hn
  rw [if_pos (by simpa using hn)]
theorem partB_get (zs : List Int) (m i : Nat) (h : i < 64) : (partB zs m)[i]? = some (if i < m then byteAt zs i else 0) := by
  unfold partB
  rw [List.getElem?_map, List.getElem?_range h]
  rfl
theorem bytesOf_get (zs : List Int) (i : Nat) (h : i < 64) : (bytesOf zs).getD i 0 = byteAt zs i := by
  rw [← partB_all, List.getD_eq_getElem?_getD, partB_get _ _ _ h, if_pos h]; rfl
theorem partB_set (zs : List Int) (m : Nat) (hm : m < 64) : (partB zs m).set m (byteAt zs m) = partB zs (m + 1) := by
  apply List.ext_getElem?
  intro i
  rw [List.getElem?_set]
  by_cases hi : i < 64
  · rw [partB_get _ _ _ hi, partB_get _ _ _ hi, partB_len]
    by_cases h : m = i
    · subst h; rw [if_pos rfl, if_pos hm, if_pos (by omega)]
    · rw [if_neg h]
      by_cases h3 : i < m
      · rw [if_pos h3, if_pos (by omega)]
      · rw [if_neg h3, if_neg (by omega)]
  · rw [if_neg (by omega), List.getElem?_eq_none (by rw [partB_len]; omega), List.getElem?_eq_none (by rw [partB_len]; omega)]

theorem byteAt_bd (zs : List Int) (n : Nat) : 0 ≤ byteAt zs n ∧ byteAt zs n < 256 := by
  unfold byteAt
  exact ⟨Int.emod_nonneg _ (by decide), Int.emod_lt_of_pos _ (by decide)⟩
theorem bytesOf_bd (zs : List Int) (b : Int) (h : b ∈ bytesOf zs) : 0 ≤ b ∧ b < 256 := by
  unfold bytesOf at h
  obtain ⟨n, _, rfl⟩ := List.mem_map.1 h
  exact byteAt_bd zs n

def wordTo (bs : List Int) (i : Nat) : Nat → Nat
  | 0 => 0
  | j + 1 => wordTo bs i j + (bs.getD (i * 8 + j) 0).toNat * 2 ^ (j * 8)
def partL (bs : List Int) (m : Nat) : List Int := (List.range 8).map fun i => ((wordTo bs i (min 8 (m - i * 8)) : Nat) : Int)
def lineOf (bs : List Int) : List Int := (List.range 8).map fun i => ((wordTo bs i 8 : Nat) : Int)
theorem partL_len (bs : List Int) (m : Nat) : (partL bs m).length = 8 := by simp [partL]
theorem lineOf_len (bs : List Int) : (lineOf bs).length = 8 := by simp [lineOf]
theorem partL_zero (bs : List Int) : partL bs 0 = List.replicate 8 0 := by
  unfold partL
  have : (fun i => ((wordTo bs i (min 8 (0 - i * 8)) : Nat) : Int)) = fun _ => 0 := by
    funext i
    rw [show min 8 (0 - i * 8) = 0 by omega]
    rfl
  rw [this, List.map_const', List.length_range]
theorem partL_all (bs : List Int) : partL bs 64 = lineOf bs := by
  unfold partL lineOf
  apply List.map_congr_left
  intro n hn
  rw [show min 8 (64 - n * 8) = 8 by simp at hn; omega]
theorem partL_get (bs : List Int) (m i : Nat) (h : i < 8) : (partL bs m)[i]? = some ((wordTo bs i (min 8 (m - i * 8)) : Nat) : Int) := by
  unfold partL
  rw [List.getElem?_map, List.getElem?_range h]
  rfl
theorem partL_at (bs : List Int) (k j : Nat) (hk : k < 8) (hj : j ≤ 8) : (partL bs (k * 8 + j)).getD k 0 = ((wordTo bs k j : Nat) : Int) := by
  rw [List.getD_eq_getElem?_getD, partL_get _ _ _ hk, show min 8 (k * 8 + j - k * 8) = j by omega]; rfl
theorem partL_set (bs : List Int) (k j : Nat) (hk : k < 8) (hj : j < 8) : (partL bs (k * 8 + j)).set k ((wordTo bs k (j + 1) : Nat) : Int) = partL bs (k * 8 + (j + 1)) := by
  apply List.ext_getElem?
  intro i
  rw [List.getElem?_set]
  by_cases hi : i < 8
  · rw [partL_get _ _ _ hi, partL_get _ _ _ hi, partL_len]
    by_cases h : k = i
    · subst h
      rw [if_pos rfl, if_pos hk, show min 8 (k * 8 + (j + 1) - k * 8) = j + 1 by omega]
    · rw [if_neg h, show min 8 (k * 8 + j - i * 8) = min 8 (k * 8 + (j + 1) - i * 8) by omega]
  · rw [if_neg (by omega), List.getElem?_eq_none (by rw [partL_len]; omega), List.getElem?_eq_none (by rw [partL_len]; omega)]

theorem wordTo_lt (bs : List Int) (hb : ∀ n, (bs.getD n 0).toNat < 256) (i : Nat) : ∀ j, wordTo bs i j < 2 ^ (j * 8)
  | 0 => by simp [wordTo]
  | j + 1 => by
    have ih := wordTo_lt bs hb i j
    have h := hb (i * 8 + j)
    have e : 2 ^ ((j + 1) * 8) = 2 ^ (j * 8) * 256 := by rw [Nat.add_mul, Nat.pow_add]
    have h2 : (bs.getD (i * 8 + j) 0).toNat * 2 ^ (j * 8) ≤ 255 * 2 ^ (j * 8) := Nat.mul_le_mul_right _ (by omega)
    unfold wordTo
    omega

theorem pow_le64 {j : Nat} (h : j ≤ 8) : 2 ^ (j * 8) ≤ 18446744073709551616 := by
  have : 2 ^ (j * 8) ≤ 2 ^ 64 := Nat.pow_le_pow_right (by decide) (by omega)
  simpa using this

/-- One more byte laid into a word. -/
theorem word_step (bs : List Int) (hb : ∀ n, 0 ≤ bs.getD n 0 ∧ bs.getD n 0 ≤ 255) (i j : Nat) (hj : j < 8) :
    bits .or .u64 ((wordTo bs i j : Nat) : Int) (IntKind.u64.wrap (bs.getD (i * 8 + j) 0 * 2 ^ (j * 8))) = ((wordTo bs i (j + 1) : Nat) : Int) := by
  have hb' : ∀ n, (bs.getD n 0).toNat < 256 := fun n => by have := hb n; omega
  have hlt := wordTo_lt bs hb' i j
  have hlt2 := wordTo_lt bs hb' i (j + 1)
  have p1 := pow_le64 (j := j) (by omega)
  have p2 := pow_le64 (j := j + 1) (by omega)
  have hd : wordTo bs i (j + 1) = wordTo bs i j + (bs.getD (i * 8 + j) 0).toNat * 2 ^ (j * 8) := rfl
  have e1 : bs.getD (i * 8 + j) 0 * 2 ^ (j * 8) = (((bs.getD (i * 8 + j) 0).toNat * 2 ^ (j * 8) : Nat) : Int) := by
    have h0 := hb (i * 8 + j)
    have : (2 : Int) ^ (j * 8) = ((2 ^ (j * 8) : Nat) : Int) := by simp
    rw [this, Int.natCast_mul, Int.toNat_of_nonneg h0.1]
  rw [e1, IntKind.wrap_u64, Int.emod_eq_of_lt (Int.natCast_nonneg _) (by omega), u64_or_nat _ _ (by omega) (by omega), Nat.or_comm, nat_join (j * 8) _ _ (Nat.mul_mod_left _ _) hlt, hd, Nat.add_comm]

theorem wordTo_byte (bs : List Int) (hb : ∀ n, (bs.getD n 0).toNat < 256) (i j : Nat) : ∀ m, j < m → wordTo bs i m / 2 ^ (j * 8) % 256 = (bs.getD (i * 8 + j) 0).toNat
  | 0, h => by omega
  | m + 1, h => by
    have hd : wordTo bs i (m + 1) = wordTo bs i m + (bs.getD (i * 8 + m) 0).toNat * 2 ^ (m * 8) := rfl
    rw [hd]
    by_cases hm : j = m
    · subst hm
      rw [Nat.add_mul_div_right _ _ (Nat.two_pow_pos _), Nat.div_eq_of_lt (wordTo_lt bs hb i j), Nat.zero_add, Nat.mod_eq_of_lt (hb _)]
    · have e : (bs.getD (i * 8 + m) 0).toNat * 2 ^ (m * 8) = (bs.getD (i * 8 + m) 0).toNat * 2 ^ ((m - j - 1) * 8) * 256 * 2 ^ (j * 8) := by
        have : m * 8 = (m - j - 1) * 8 + 8 + j * 8 := by omega
        rw [this, Nat.pow_add, Nat.pow_add, ← Nat.mul_assoc, ← Nat.mul_assoc]
      rw [e, Nat.add_mul_div_right _ _ (Nat.two_pow_pos _), Nat.add_mul_mod_self_right]
      exact wordTo_byte bs hb i j m (by omega)

theorem lineOf_get (bs : List Int) (i : Nat) (h : i < 8) : (lineOf bs).getD i 0 = ((wordTo bs i 8 : Nat) : Int) := by
  rw [← partL_all, List.getD_eq_getElem?_getD, partL_get _ _ _ h, show min 8 (64 - i * 8) = 8 by omega]; rfl

theorem lineOf_bd (bs : List Int) (hb : ∀ n, 0 ≤ bs.getD n 0 ∧ bs.getD n 0 ≤ 255) (z : Int) (h : z ∈ lineOf bs) : 0 ≤ z ∧ z ≤ 18446744073709551615 := by
  unfold lineOf at h
  obtain ⟨n, _, rfl⟩ := List.mem_map.1 h
  have := wordTo_lt bs (fun n => by have := hb n; omega) n 8
  omega

/-- The bytes of the line of bytes are they. -/
theorem bytes_line (bs : List Int) (hl : bs.length = 64) (hb : ∀ n, 0 ≤ bs.getD n 0 ∧ bs.getD n 0 ≤ 255) : bytesOf (lineOf bs) = bs := by
  apply List.ext_getElem?
  intro n
  by_cases hn : n < 64
  · have e : byteAt (lineOf bs) n = bs.getD n 0 := by
      have h0 := hb n
      unfold byteAt
      rw [lineOf_get _ _ (by omega)]
      have hw := wordTo_byte bs (fun n => by have := hb n; omega) (n / 8) (n % 8) 8 (by omega)
      rw [show n / 8 * 8 + n % 8 = n by omega] at hw
      have c : (((wordTo bs (n / 8) 8 : Nat) : Int) / 2 ^ (n % 8 * 8) % 256) = ((wordTo bs (n / 8) 8 / 2 ^ (n % 8 * 8) % 256 : Nat) : Int) := by simp
      rw [c, hw]
      omega
    rw [← partB_all, partB_get _ _ _ hn, if_pos hn, e, List.getD_eq_getElem?_getD, List.getElem?_eq_getElem (by omega)]
    rfl
  · rw [List.getElem?_eq_none (by rw [bytesOf_len]; omega), List.getElem?_eq_none (by omega)]

theorem wordTo_bytes (zs : List Int) (i : Nat) (hi : i < 8) (h0 : 0 ≤ zs.getD i 0) : ∀ j, j ≤ 8 → wordTo (bytesOf zs) i j = (zs.getD i 0).toNat % 2 ^ (j * 8)
  | 0, _ => by simp [wordTo, Nat.mod_one]
  | j + 1, hj => by
    have ih := wordTo_bytes zs i hi h0 j (by omega)
    have hd : wordTo (bytesOf zs) i (j + 1) = wordTo (bytesOf zs) i j + ((bytesOf zs).getD (i * 8 + j) 0).toNat * 2 ^ (j * 8) := rfl
    have hb : ((bytesOf zs).getD (i * 8 + j) 0).toNat = (zs.getD i 0).toNat / 2 ^ (j * 8) % 256 := by
      rw [bytesOf_get _ _ (by omega)]
      unfold byteAt
      rw [show (i * 8 + j) / 8 = i by omega, show (i * 8 + j) % 8 = j by omega]
      obtain ⟨Z, hZ⟩ := Int.eq_ofNat_of_zero_le h0
      rw [hZ]
      have c : ((Z : Int) / 2 ^ (j * 8) % 256) = ((Z / 2 ^ (j * 8) % 256 : Nat) : Int) := by simp
      rw [c, Int.toNat_natCast, Int.toNat_natCast]
    rw [hd, ih, hb, Nat.add_mul, Nat.pow_add, Nat.one_mul, Nat.mod_mul, Nat.mul_comm (2 ^ (j * 8))]

/-- The line of the bytes of a line is it. -/
theorem line_bytes (zs : List Int) (hl : zs.length = 8) (hz : ∀ j, 0 ≤ zs.getD j 0 ∧ zs.getD j 0 ≤ 18446744073709551615) : lineOf (bytesOf zs) = zs := by
  apply List.ext_getElem?
  intro i
  by_cases hi : i < 8
  · have h := hz i
    rw [← partL_all, partL_get _ _ _ hi, show min 8 (64 - i * 8) = 8 by omega, wordTo_bytes zs i hi h.1 8 (by omega), Nat.mod_eq_of_lt (by omega), Int.toNat_of_nonneg h.1, List.getD_eq_getElem?_getD, List.getElem?_eq_getElem (by omega)]
    rfl
  · rw [List.getElem?_eq_none (by rw [lineOf_len]; omega), List.getElem?_eq_none (by omega)]

end Go.Proofs.YtiafhcgaikapcaaGreat
