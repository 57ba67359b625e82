
/-
  Plain mathematics of turned bits: a byte of a row, or of a sealed line, with some of its bits turned. No program.
-/
import Derived.Test.YtiafhcgaikapcaaGreatPkCr
namespace Go.Proofs.YtiafhcgaikapcaaGreat

theorem set_ne {bs : List Int} {k : Nat} (hk : k < bs.length) {z : Int} (h : z ≠ bs.getD k 0) : bs.set k z ≠ bs := fun e => h (by
  have : (bs.set k z).getD k 0 = bs.getD k 0 := by rw [e]
  rw [List.getD_eq_getElem?_getD, List.getElem?_set_self hk] at this
  exact this)

/-- XOR with bits that are not nought is another byte; with nought the same. -/
theorem xor_turn (v : Int) (hv : 0 ≤ v ∧ v ≤ 255) (z : Nat) (hz : z < 256) : bits .xor .u8 v (z : Int) = ((v.toNat ^^^ z : Nat) : Int) := by
  rw [u8_xor v z hv.1 (by omega) (by omega) (by omega), Int.toNat_natCast]
theorem xor_other (v : Int) (hv : 0 ≤ v) (z : Nat) (hz : z ≠ 0) : ((v.toNat ^^^ z : Nat) : Int) ≠ v := fun h => hz (by
  have h1 : v.toNat ^^^ z = v.toNat := by omega
  have h2 : v.toNat ^^^ z ^^^ v.toNat = 0 := by rw [h1, Nat.xor_self]
  rw [Nat.xor_comm v.toNat z, xor_cancel] at h2
  exact h2)
theorem xor_same (v : Int) (hv : 0 ≤ v) : ((v.toNat ^^^ 0 : Nat) : Int) = v := by rw [Nat.xor_zero]; omega
theorem xor_bd (v : Int) (hv : 0 ≤ v ∧ v ≤ 255) (z : Nat) (hz : z < 256) : 0 ≤ ((v.toNat ^^^ z : Nat) : Int) ∧ ((v.toNat ^^^ z : Nat) : Int) ≤ 255 := by
  have := xor_lt8 (a := v.toNat) (b := z) (by omega) hz
  omega
theorem b8_set {bs : List Int} (h : Bytes8 bs) (k : Nat) (z : Int) (hz : 0 ≤ z ∧ z ≤ 255) : Bytes8 (bs.set k z) := fun y hy => by
  rcases List.mem_or_eq_of_mem_set hy with h' | h'
  · exact h y h'
  · rw [h']; exact hz

theorem sum_turned (bs : List Int) (hb : Bytes8 bs) (k : Nat) (hk : k < bs.length) (z : Int) (hz : 0 ≤ z ∧ z ≤ 255) (hne : z ≠ bs.getD k 0) : moreN 0 (bs.set k z) ≠ moreN 0 bs := fun h => hne (by
  unfold moreN at h
  exact regN_turn (r := notN 0) (by decide) bs hb k hk z hz (notN_inj h))

theorem wordTo_congr (bs cs : List Int) (i : Nat) : ∀ m, (∀ j, j < m → bs.getD (i * 8 + j) 0 = cs.getD (i * 8 + j) 0) → wordTo bs i m = wordTo cs i m
  | 0, _ => rfl
  | m + 1, h => by
    unfold wordTo
    rw [wordTo_congr bs cs i m (fun j hj => h j (by omega)), h m (by omega)]

theorem getD_set_ne (bs : List Int) (k i : Nat) (z : Int) (h : k ≠ i) : (bs.set k z).getD i 0 = bs.getD i 0 := by
  rw [List.getD_eq_getElem?_getD, List.getD_eq_getElem?_getD, List.getElem?_set, if_neg h]

/-- A sealed line's bytes, one of them another one: the line is not good. -/
theorem good_turned (zs : List Int) (hl : zs.length = 8) (hz : ∀ j, 0 ≤ (sealOf zs).getD j 0 ∧ (sealOf zs).getD j 0 ≤ 18446744073709551615) (q : Nat) (hq : q < 64) (v : Int) (hv : 0 ≤ v ∧ v ≤ 255) (hne : v ≠ (bytesOf (sealOf zs)).getD q 0) :
    goodB (lineOf ((bytesOf (sealOf zs)).set q v)) = false := by
  have hB := bytesOf_b8 (sealOf zs)
  have hBl := bytesOf_len (sealOf zs)
  have hline : lineOf (bytesOf (sealOf zs)) = sealOf zs := line_bytes _ (by rw [sealOf_len, hl]) hz
  have h7 : (lineOf (bytesOf (sealOf zs))).getD 7 0 = sealW (sealOf zs) := by
    rw [hline]
    have := good_of_seal zs hl
    unfold goodB at this
    exact of_decide_eq_true this
  generalize bytesOf (sealOf zs) = B at *
  have hb8 := b8_set hB q v hv
  have hbk : bytesOf (lineOf (B.set q v)) = B.set q v := bytes_line _ (by simpa using hBl) (fun n => b8_get hb8 n)
  have hbk0 : bytesOf (lineOf B) = B := bytes_line _ hBl (fun n => b8_get hB n)
  have e0 : sealW (sealOf zs) = 4294967296 + ((moreN 0 (B.take 56) : Nat) : Int) := by
    rw [← hline]; unfold sealW; rw [hbk0]
  unfold goodB
  rw [decide_eq_false_iff_not]
  intro hg
  have e1 : sealW (lineOf (B.set q v)) = 4294967296 + ((moreN 0 ((B.set q v).take 56) : Nat) : Int) := by unfold sealW; rw [hbk]
  rw [e1] at hg
  rw [e0] at h7
  by_cases hq7 : q < 56
  · have ew : (lineOf (B.set q v)).getD 7 0 = (lineOf B).getD 7 0 := by
      rw [lineOf_get _ _ (by decide), lineOf_get _ _ (by decide), wordTo_congr _ B 7 8 (fun j hj => getD_set_ne B q _ v (by omega))]
    rw [ew, h7, List.take_set] at hg
    have hne' : v ≠ (B.take 56).getD q 0 := by
      rw [List.getD_eq_getElem?_getD, List.getElem?_take, if_pos hq7, ← List.getD_eq_getElem?_getD]; exact hne
    exact sum_turned (B.take 56) (b8_take hB 56) q (by rw [List.length_take]; omega) v hv hne' (by omega)
  · have et : (B.set q v).take 56 = B.take 56 := by
      rw [List.take_set]
      exact List.set_eq_of_length_le (by rw [List.length_take]; omega)
    rw [et, ← h7] at hg
    have : lineOf (B.set q v) = lineOf B := by
      apply List.ext_getElem?
      intro i
      by_cases hi : i < 8
      · have e : (lineOf (B.set q v)).getD i 0 = (lineOf B).getD i 0 := by
          by_cases h : i = 7
          · subst h; exact hg
          · rw [lineOf_get _ _ hi, lineOf_get _ _ hi, wordTo_congr _ B i 8 (fun j hj => getD_set_ne B q _ v (by omega))]
        rw [List.getD_eq_getElem?_getD, List.getD_eq_getElem?_getD, List.getElem?_eq_getElem (by rw [lineOf_len]; omega), List.getElem?_eq_getElem (by rw [lineOf_len]; omega)] at e
        rw [List.getElem?_eq_getElem (by rw [lineOf_len]; omega), List.getElem?_eq_getElem (by rw [lineOf_len]; omega)]
        simpa using e
      · rw [List.getElem?_eq_none (by rw [lineOf_len]; omega), List.getElem?_eq_none (by rw [lineOf_len]; omega)]
    have h2 : B.set q v = B := by rw [← hbk, this, hbk0]
    exact set_ne (by omega) hne h2

end Go.Proofs.YtiafhcgaikapcaaGreat
