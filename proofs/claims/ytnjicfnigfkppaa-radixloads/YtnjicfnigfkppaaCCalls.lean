
/-
  Package crc's functions and the document's: what each call returns, in any world, for all integers that fit and all rows of bytes that can be read; the world stays as it is.
-/
import Derived.Test.YtnjicfnigfkppaaRows
import Derived.Test.YtnjicfnigfkppaaWCalls
import Derived.Test.YtnjicfnigfkppaaCMath
import Derived.Test.YtnjicfnigfkppaaRows2
import Derived.Test.YtnjicfnigfkppaaBRows
import Derived.WalkKit
import Derived.WalkLawsBesides
import Derived.ProofKit
import Derived.OpenShut
namespace Go.Proofs.Ytnjicfnigfkppaa
open Go.ChangeShapes Go.WideShapes Go.ChangeAt Go.RowKit
set_option maxRecDepth 10000
set_option linter.unusedVariables false

theorem taken_any (r c : Nat) (hr : r < 4294967296) (hc : c < 256) (w : World) :
    Calls Try.prog 66 #[.int .u32 (r : Int), .int .u8 (c : Int)] w fun e w' => e = .returned (.int .u32 ((takeN r c : Nat) : Int)) ∧ w' = w := by
  go_enter Try.func66, Try.ntmps66
  go_wp2
  go_loop [0, 10] (fun v i => ∃ k : Nat, k ≤ 8 ∧ i = .int .i64 k ∧ v = .int .u32 ((stepsN k (r ^^^ c) : Nat) : Int)) (fun _ i => 8 - (intOf i).toNat)
  case atStart => exact ⟨0, by omega, rfl, by rw [u32_xor_nat r c hr (by omega)]; rfl⟩
  case round =>
    obtain ⟨k, hk, rfl, rfl⟩ := hrel
    have hs := stepsN_lt (xor_lt32 hr (show c < 4294967296 by omega)) k
    have Hn : Hid (stepsN (k + 1) (r ^^^ c) = stepN (stepsN k (r ^^^ c))) := rfl
    have H8 : Hid (takeN r c = stepsN 8 (r ^^^ c)) := rfl
    by_cases hlt : k < 8
    · generalize stepsN k (r ^^^ c) = s at *
      go_wp2
      go_round
      case rel => exact ⟨k + 1, by omega, by go_num, by rw [step_eq s hs, Hn.out]⟩
      case measure => simp [intOf]; omega
    · have hk8 : k = 8 := by omega
      subst hk8
      go_wp2
      go_ret
      exact ⟨ret_int (by rw [H8.out]), rfl⟩

theorem more_any (s : Nat) (hs : s < 4294967296) (a : Option Addr) (bs : List Int) (cap : Nat) (hb : Bytes8 bs) (hl : bs.length ≤ 9223372036854775807) (w : World) (h : Lies w a bs) :
    Calls Try.prog 61 #[.int .u32 (s : Int), .slice a bs.length cap] w fun e w' => e = .returned (.int .u32 ((moreN s bs : Nat) : Int)) ∧ w' = w := by
  obtain ⟨len, hlen⟩ : ∃ n, n = bs.length := ⟨_, rfl⟩
  rw [← hlen] at hl ⊢
  have Hlen := (show Hid (len = bs.length) from hlen)
  have H : Hid (Lies w a bs) := h
  have Hb : Hid (Bytes8 bs) := hb
  have Hm : Hid (moreN s bs = notN (regN (notN s) bs)) := rfl
  clear h hlen hb
  go_enter Try.func61, Try.ntmps61
  go_wp2
  go_loop [5, 12] (fun v i => ∃ k : Nat, k ≤ len ∧ i = .int .i64 k ∧ v = .int .u32 ((regN (notN s) (bs.take k) : Nat) : Int)) (fun _ i => len - (intOf i).toNat)
  case atStart => exact ⟨0, by omega, rfl, by rw [not_eq s hs]; rfl⟩
  case round =>
    obtain ⟨k, hk, rfl, rfl⟩ := hrel
    have hr := regN_lt _ (b8_take Hb.out k) (notN_lt hs)
    by_cases hlt : k < len
    · have h0 := b8_get Hb.out k
      have Hn := hide (regN_snoc (notN s) bs k (by rw [← Hlen.out]; exact hlt))
      obtain ⟨b, off, rfl, hc⟩ : ∃ b off, a = some ⟨b, off, none⟩ ∧ w.cell? ⟨b, off + k, none⟩ = some (.int .u8 (bs.getD k 0)) := by
        rcases H.out with h | ⟨b, off, h1, h2⟩
        · rw [Hlen.out, h] at hlt; simp at hlt
        · exact ⟨b, off, h1, h2 k (by rw [← Hlen.out]; exact hlt)⟩
      obtain ⟨c, hcc⟩ := Int.eq_ofNat_of_zero_le h0.1
      rw [hcc] at hc h0
      have Hcc := hide (hcc)
      clear hcc
      generalize regN (notN s) (bs.take k) = q at *
      go_wp2_with (go_at_call 66; refine (taken_any q c hr (by omega) _).mono ?_; rintro e w' ⟨rfl, rfl⟩)
      go_round
      case rel => exact ⟨k + 1, by omega, by go_num, by rw [Hn.out, Hcc.out]; rfl⟩
      case measure => simp [intOf]; omega
    · have Ht : Hid (bs.take k = bs) := List.take_of_length_le (by have := Hlen.out; omega)
      go_wp2
      go_ret
      exact ⟨ret_int (by rw [not_eq _ hr, Ht.out, Hm.out]), rfl⟩

theorem sum_any (a : Option Addr) (bs : List Int) (cap : Nat) (hb : Bytes8 bs) (hl : bs.length ≤ 9223372036854775807) (w : World) (h : Lies w a bs) :
    Calls Try.prog 49 #[.slice a bs.length cap] w fun e w' => e = .returned (.int .u32 ((moreN 0 bs : Nat) : Int)) ∧ w' = w := by
  go_enter Try.func49, Try.ntmps49
  go_wp2_with (go_at_call 61; refine (more_any 0 (by decide) a bs cap hb hl _ h).mono ?_; rintro e w' ⟨rfl, rfl⟩)
  go_ret
  exact ⟨rfl, rfl⟩

theorem register_any (s : Nat) (hs : s < 4294967296) (a : Option Addr) (bs : List Int) (cap : Nat) (hb : Bytes8 bs) (hl : bs.length ≤ 9223372036854775807) (w : World) (h : Lies w a bs) :
    Calls Try.prog 58 #[.int .u32 (s : Int), .slice a bs.length cap] w fun e w' => e = .returned (.int .u32 ((regN s bs : Nat) : Int)) ∧ w' = w := by
  obtain ⟨len, hlen⟩ : ∃ n, n = bs.length := ⟨_, rfl⟩
  rw [← hlen] at hl ⊢
  have Hlen := (show Hid (len = bs.length) from hlen)
  have H : Hid (Lies w a bs) := h
  have Hb : Hid (Bytes8 bs) := hb
  clear h hlen hb
  go_enter Try.func58, Try.ntmps58
  go_wp2
  go_loop [0, 5] (fun v i => ∃ k : Nat, k ≤ len ∧ i = .int .i64 k ∧ v = .int .u32 ((regN s (bs.take k) : Nat) : Int)) (fun _ i => len - (intOf i).toNat)
  case atStart => exact ⟨0, by omega, rfl, rfl⟩
  case round =>
    obtain ⟨k, hk, rfl, rfl⟩ := hrel
    have hr := regN_lt _ (b8_take Hb.out k) hs
    by_cases hlt : k < len
    · have h0 := b8_get Hb.out k
      have Hn := hide (regN_snoc s bs k (by rw [← Hlen.out]; exact hlt))
      obtain ⟨b, off, rfl, hc⟩ : ∃ b off, a = some ⟨b, off, none⟩ ∧ w.cell? ⟨b, off + k, none⟩ = some (.int .u8 (bs.getD k 0)) := by
        rcases H.out with h | ⟨b, off, h1, h2⟩
        · rw [Hlen.out, h] at hlt; simp at hlt
        · exact ⟨b, off, h1, h2 k (by rw [← Hlen.out]; exact hlt)⟩
      obtain ⟨c, hcc⟩ := Int.eq_ofNat_of_zero_le h0.1
      rw [hcc] at hc h0
      have Hcc := hide (hcc)
      clear hcc
      generalize regN s (bs.take k) = q at *
      have hcl : c < 256 := by omega
      go_wp2
      go_loop [0, 6] (fun v i => ∃ j : Nat, j ≤ 8 ∧ i = .int .i64 j ∧ v = .int .u32 ((stepsN j (q ^^^ c) : Nat) : Int)) (fun _ i => 8 - (intOf i).toNat)
      case atStart => exact ⟨0, by omega, rfl, by rw [u32_xor_nat q c hr (by omega)]; rfl⟩
      case round =>
        obtain ⟨j, hj, rfl, rfl⟩ := hrel
        have hs := stepsN_lt (xor_lt32 hr (show c < 4294967296 by omega)) j
        have Hj : Hid (stepsN (j + 1) (q ^^^ c) = stepN (stepsN j (q ^^^ c))) := rfl
        have H8 : Hid (takeN q c = stepsN 8 (q ^^^ c)) := rfl
        by_cases hlj : j < 8
        · generalize stepsN j (q ^^^ c) = t at *
          have ha := and_one t hs
          rcases (show t % 2 = 0 ∨ t % 2 = 1 by omega) with ht | ht
          · have Ht := hide (ht)
            rw [ht] at ha
            have ha' : bits .and .u32 (t : Int) 1 = 0 := ha
            clear ha ht
            go_wp2
            go_round
            case rel => exact ⟨j + 1, by omega, by go_num, by rw [step_nil t Ht.out, Hj.out]⟩
            case measure => simp [intOf]; omega
          · have Ht := hide (ht)
            rw [ht] at ha
            have ha' : bits .and .u32 (t : Int) 1 = 1 := ha
            clear ha ht
            go_wp2
            go_round
            case rel => exact ⟨j + 1, by omega, by go_num, by rw [step_one t hs Ht.out, Hj.out]⟩
            case measure => simp [intOf]; omega
        · have hj8 : j = 8 := by omega
          subst hj8
          go_wp2
          go_round
          case rel => exact ⟨k + 1, by omega, by go_num, by rw [Hn.out, Hcc.out, ← H8.out]; rfl⟩
          case measure => simp [intOf]; omega
    · have Ht : Hid (bs.take k = bs) := List.take_of_length_le (by have := Hlen.out; omega)
      go_wp2
      go_ret
      exact ⟨ret_int (by rw [Ht.out]), rfl⟩

theorem rsum_any (a : Option Addr) (bs : List Int) (cap : Nat) (hb : Bytes8 bs) (hl : bs.length ≤ 9223372036854775807) (w : World) (h : Lies w a bs) :
    Calls Try.prog 45 #[.slice a bs.length cap] w fun e w' => e = .returned (.int .u32 ((moreN 0 bs : Nat) : Int)) ∧ w' = w := by
  have H2 := hide (not_eq _ (regN_lt _ hb (notN_lt (show 0 < 4294967296 by decide))))
  have C := register_any (notN 0) (notN_lt (by decide)) a bs cap hb hl w h
  have e0 : ((notN 0 : Nat) : Int) = 4294967295 := by decide
  rw [e0] at C
  have H := hide (C)
  clear C e0
  go_enter Try.func45, Try.ntmps45
  go_wp2_with (go_at_call 58; refine (unhide H).mono ?_; rintro e w' ⟨rfl, rfl⟩)
  go_ret
  exact ⟨ret_int H2.out, rfl⟩

theorem sum_len (a : Option Addr) (bs : List Int) (n cap : Nat) (hn : bs.length = n) (hb : Bytes8 bs) (hl : n ≤ 9223372036854775807) (w : World) (h : Lies w a bs) :
    Calls Try.prog 49 #[.slice a n cap] w fun e w' => e = .returned (.int .u32 ((moreN 0 bs : Nat) : Int)) ∧ w' = w := by
  subst hn; exact sum_any a bs cap hb hl w h
theorem more_len (s : Nat) (hs : s < 4294967296) (a : Option Addr) (bs : List Int) (n cap : Nat) (hn : bs.length = n) (hb : Bytes8 bs) (hl : n ≤ 9223372036854775807) (w : World) (h : Lies w a bs) :
    Calls Try.prog 61 #[.int .u32 (s : Int), .slice a n cap] w fun e w' => e = .returned (.int .u32 ((moreN s bs : Nat) : Int)) ∧ w' = w := by
  subst hn; exact more_any s hs a bs cap hb hl w h
theorem rsum_len (a : Option Addr) (bs : List Int) (n cap : Nat) (hn : bs.length = n) (hb : Bytes8 bs) (hl : n ≤ 9223372036854775807) (w : World) (h : Lies w a bs) :
    Calls Try.prog 45 #[.slice a n cap] w fun e w' => e = .returned (.int .u32 ((moreN 0 bs : Nat) : Int)) ∧ w' = w := by
  subst hn; exact rsum_any a bs cap hb hl w h


end Go.Proofs.Ytnjicfnigfkppaa
