
/-
  Package crc's functions and the document's: what each call returns, in any world, for all integers that fit and all rows of bytes that can be read; the world stays as it is.
-/
import Derived.Test.YtnjicfnigfkppabRows
import Derived.Test.YtnjicfnigfkppabWCalls
import Derived.Test.YtnjicfnigfkppabCMath
import Derived.Test.YtnjicfnigfkppabRows2
import Derived.Test.YtnjicfnigfkppabBRows
import Derived.WalkKit
import Derived.WalkLawsBesides
import Derived.ProofKit
import Derived.OpenShut
namespace Go.Proofs.Ytnjicfnigfkppab
open Go.ChangeShapes Go.WideShapes Go.ChangeAt Go.RowKit
set_option maxRecDepth 10000
set_option linter.unusedVariables false

theorem taken_any (r c : Nat) (hr : r < 4294967296) (hc : c < 256) (w : World) :
    Calls Try.prog 32 #[.int .u32 (r : Int), .int .u8 (c : Int)] w fun e w' => e = .returned (.int .u32 ((takeN r c : Nat) : Int)) ∧ w' = w := by
  go_enter Try.func32, Try.ntmps32
  go_wp2
  go_loop [0, 10] (fun v i => ∃ k : Nat, k ≤ 8 ∧ i = .int .i64 k ∧ v = .int .u32 ((stepsN k (r ^^^ c) : Nat) : Int)) (fun _ i => 8 - (intOf i).toNat)
  case atStart => exact ⟨0, by omega, rfl, by rw [u32_xor_nat r c hr (by omega)]; rfl⟩
  case round =>
    obtain ⟨k, hk, rfl, rfl⟩ := hrel
    have hs := stepsN_lt (xor_lt32 hr (show c < 4294967296 by omega)) k
    have Hn : Hid (stepsN (k + 1) (r ^^^ c) = stepN (stepsN k (r ^^^ c))) := rfl
    have H8 : Hid (takeN r c = stepsN 8 (r ^^^ c)) := rfl
    by_cases hlt : k < 8
    · generalize stepsN k (r ^^^ c) = s at *
      go_wp2
      go_round
      case rel => exact ⟨k + 1, by omega, by go_num, by rw [step_eq s hs, Hn.out]⟩
      case measure => simp [intOf]; omega
    · have hk8 : k = 8 := by omega
      subst hk8
      go_wp2
      go_ret
      exact ⟨ret_int (by rw [H8.out]), rfl⟩

theorem more_any (s : Nat) (hs : s < 4294967296) (a : Option Addr) (bs : List Int) (cap : Nat) (hb : Bytes8 bs) (hl : bs.length ≤ 9223372036854775807) (w : World) (h : Lies w a bs) :
    Calls Try.prog 27 #[.int .u32 (s : Int), .slice a bs.length cap] w fun e w' => e = .returned (.int .u32 ((moreN s bs : Nat) : Int)) ∧ w' = w := by
  obtain ⟨len, hlen⟩ : ∃ n, n = bs.length := ⟨_, rfl⟩
  rw [← hlen] at hl ⊢
  have Hlen := (show Hid (len = bs.length) from hlen)
  have H : Hid (Lies w a bs) := h
  have Hb : Hid (Bytes8 bs) := hb
  have Hm : Hid (moreN s bs = notN (regN (notN s) bs)) := rfl
  clear h hlen hb
  go_enter Try.func27, Try.ntmps27
  go_wp2
  go_loop [5, 12] (fun v i => ∃ k : Nat, k ≤ len ∧ i = .int .i64 k ∧ v = .int .u32 ((regN (notN s) (bs.take k) : Nat) : Int)) (fun _ i => len - (intOf i).toNat)
  case atStart => exact ⟨0, by omega, rfl, by rw [not_eq s hs]; rfl⟩
  case round =>
    obtain ⟨k, hk, rfl, rfl⟩ := hrel
    have hr := regN_lt _ (b8_take Hb.out k) (notN_lt hs)
    by_cases hlt : k < len
    · have h0 := b8_get Hb.out k
      have Hn := hide (regN_snoc (notN s) bs k (by rw [← Hlen.out]; exact hlt))
      obtain ⟨b, off, rfl, hc⟩ : ∃ b off, a = some ⟨b, off, none⟩ ∧ w.cell? ⟨b, off + k, none⟩ = some (.int .u8 (bs.getD k 0)) := by
        rcases H.out with h | ⟨b, off, h1, h2⟩
        · rw [Hlen.out, h] at hlt; simp at hlt
        · exact ⟨b, off, h1, h2 k (by rw [← Hlen.out]; exact hlt)⟩
      obtain ⟨c, hcc⟩ := Int.eq_ofNat_of_zero_le h0.1
      rw [hcc] at hc h0
      have Hcc := hide (hcc)
      clear hcc
      generalize regN (notN s) (bs.take k) = q at *
      go_wp2_with (go_at_call 32; refine (taken_any q c hr (by omega) _).mono ?_; rintro e w' ⟨rfl, rfl⟩)
      go_round
      case rel => exact ⟨k + 1, by omega, by go_num, by rw [Hn.out, Hcc.out]; rfl⟩
      case measure => simp [intOf]; omega
    · have Ht : Hid (bs.take k = bs) := List.take_of_length_le (by have := Hlen.out; omega)
      go_wp2
      go_ret
      exact ⟨ret_int (by rw [not_eq _ hr, Ht.out, Hm.out]), rfl⟩

theorem sum_any (a : Option Addr) (bs : List Int) (cap : Nat) (hb : Bytes8 bs) (hl : bs.length ≤ 9223372036854775807) (w : World) (h : Lies w a bs) :
    Calls Try.prog 21 #[.slice a bs.length cap] w fun e w' => e = .returned (.int .u32 ((moreN 0 bs : Nat) : Int)) ∧ w' = w := by
  go_enter Try.func21, Try.ntmps21
  go_wp2_with (go_at_call 27; refine (more_any 0 (by decide) a bs cap hb hl _ h).mono ?_; rintro e w' ⟨rfl, rfl⟩)
  go_ret
  exact ⟨rfl, rfl⟩


theorem sum_len (a : Option Addr) (bs : List Int) (n cap : Nat) (hn : bs.length = n) (hb : Bytes8 bs) (hl : n ≤ 9223372036854775807) (w : World) (h : Lies w a bs) :
    Calls Try.prog 21 #[.slice a n cap] w fun e w' => e = .returned (.int .u32 ((moreN 0 bs : Nat) : Int)) ∧ w' = w := by
  subst hn; exact sum_any a bs cap hb hl w h
theorem more_len (s : Nat) (hs : s < 4294967296) (a : Option Addr) (bs : List Int) (n cap : Nat) (hn : bs.length = n) (hb : Bytes8 bs) (hl : n ≤ 9223372036854775807) (w : World) (h : Lies w a bs) :
    Calls Try.prog 27 #[.int .u32 (s : Int), .slice a n cap] w fun e w' => e = .returned (.int .u32 ((moreN s bs : Nat) : Int)) ∧ w' = w := by
  subst hn; exact more_any s hs a bs cap hb hl w h


end Go.Proofs.Ytnjicfnigfkppab
