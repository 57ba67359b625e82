/-
  For every two rows of bytes, CrcSpare returns true and leaves its arguments as they were: a sum hangs on the bytes alone, and what stands behind them stays. No condition.
-/
import Derived.Test.YtkhhgnainlnofaaCShown
import Derived.Test.YtkhhgnainlnofaaLaw
import Derived.Deep.QuietTactic
import Derived.BigQuiet
namespace Go.Proofs.Ytkhhgnainlnofaa.crcSpare
open Go.ChangeShapes Go.WideShapes Go.ChangeAt Go.RowKit Go.Joins
set_option linter.unusedVariables false

set_option maxHeartbeats 1000000 in
theorem walk (W : World) (a : Option Addr) (ds : List Int) (na ca : Nat) (b : Option Addr) (bs : List Int) (nb cb : Nat) (ha : IsBytes W a ds na ca) (hb : IsBytes W b bs nb cb) :
    Calls Try.prog 8 #[.slice a na ca, .slice b nb cb] W fun e W' => e = .returned (.bool true) ∧ Below W.heap.size W W' := by
  obtain ⟨xs, m, -, ⟨c1, c2, c3, c4, c5, c6⟩, m300, hfa⟩ := few_of ha
  obtain ⟨ys, k, -, ⟨d1, d2, d3, d4, d5, d6⟩, k300, hfb⟩ := few_of hb
  have HA := hide hfa
  have HB := hide hfb
  have C1 := hide c1
  have C2 := hide c2
  have C3 := hide c3
  have D1 := hide d1
  have D2 := hide d2
  have D3 := hide d3
  clear hfa hfb c1 c2 c3 d1 d2 d3 ha hb
  go_enter Try.func8, Try.ntmps8
  go_wp2_with fail
  refine (shown_any _).mono ?_
  rintro e w1 ⟨rfl, hb1⟩
  have Hb1 := hide hb1
  clear hb1
  go_wp2_with fail
  refine (unhide HA _ _ (Nat.le_refl _) (unhide Hb1)).mono ?_
  rintro e w1 ⟨rfl, rfl⟩
  go_wp2_with fail
  refine (unhide HB _ _ (Nat.le_refl _) (unhide Hb1)).mono ?_
  rintro e w1 ⟨rfl, rfl⟩
  have hB1 : W.heap.size ≤ w1.heap.size := (unhide Hb1).size
  have Hb2 : Hid (Below W.heap.size W (w1.alloc (.cells #[] 5))) := (unhide Hb1).alloc hB1 _
  have O2 : Hid ((w1.alloc (.cells #[] 5)).ownsRow W.heap.size 5 1 (.slice (some ⟨w1.heap.size, 0, none⟩) 0 0) 0 (([] : List Int).map (Value.int .u8))) := World.ownsRow_lit (base := W.heap.size) (e := 5) (size := 1) w1 #[] 0 hB1 (by decide) rfl
  go_wp2_with (first
    | (at_builtin; refine wpList_append_lies rfl (.tmp 13) (.tmp 14) 22 rfl W.heap.size 5 Try.underlying22 info8 (.slice (some ⟨w1.heap.size, 0, none⟩) 0 0) 0 [] rfl (unhide O2) a m ca rfl xs (unhide C1) (lies_below (unhide C2) (Nat.le_refl _) (unhide Hb2)) c6 (by omega) (unhide Hb2).size ?_; intro v1 w2 hown1 hbw1 hn1; rw [Nat.zero_add, List.nil_append] at hown1; have O3 := hide hown1; have N1 := hide (hn1 (by simp)); have Hb3 := hide ((unhide Hb2).trans hbw1); clear hown1 hbw1 hn1)
    | (at_builtin; refine wpList_append_lies rfl (.tmp 15) (.tmp 16) 22 rfl W.heap.size 5 Try.underlying22 info8 _ m xs rfl (unhide O3) b k cb rfl ys (unhide D1) (lies_below (unhide D2) (Nat.le_refl _) (unhide Hb3)) d6 (by omega) (unhide Hb3).size ?_; intro v2 w3 hown2 hbw2 hn2; obtain ⟨g, cap2, rfl, lg, lgs, l2, l3, l4, l1, l5⟩ := lies_own_some hown2 (hn2 (unhide N1)); have L1 := hide l1; have L2 := hide l2; have Hb4 := hide ((unhide Hb3).trans hbw2); clear hown2 hbw2 l1 l2 l5 hn2))
  have LA : Hid (Lies w3 a xs) := lies_below (unhide C2) (Nat.le_refl _) (unhide Hb4)
  have LB : Hid (Lies w3 b ys) := lies_below (unhide D2) (Nat.le_refl _) (unhide Hb4)
  have LW : Hid (Lies w3 (some ⟨g, 0, none⟩) xs) := by
    refine Or.inr ⟨g, 0, rfl, fun i hi => ?_⟩
    have := unhide L1 i (by rw [List.length_append]; omega)
    rw [Nat.zero_add, this, List.getD_eq_getElem?_getD, List.getD_eq_getElem?_getD, List.getElem?_append_left hi]
  refine (sum_len _ xs m cap2 (unhide C1) (unhide C3) (by omega) _ (unhide LW)).mono ?_
  rintro e w3 ⟨rfl, rfl⟩
  have QS : Hid (∀ q, Calls Try.prog 11 #[.slice a m ca] (w3.drewN q) fun e w' => e = .returned (.int .u32 ((moreN 0 xs : Nat) : Int)) ∧ w' = w3.drewN q) := fun q => sum_len a xs m ca (unhide C1) (unhide C3) (by omega) _ (lies_draws (unhide LA) q)
  generalize moreN 0 xs = S at *
  go_wp2_with fail
  have hB : ∀ q, (convert 22 9 (.slice b k cb)).run Try.prog (w3.drewN q) = .ok (.string (strOfNums ys)) (w3.drewN q) := fun q =>
    conv_lies Try.underlying22 Try.underlying5 Try.underlying9 k cb (unhide D1) (lies_draws (unhide LB) q)
  have hA0 : m + k = m → ∀ q c, (convert 22 9 (.slice (some ⟨g, 0, none⟩) 0 c)).run Try.prog (w3.drewN q) = .ok (.string (strOfNums ys)) (w3.drewN q) := fun h q c => by
    have : ys = [] := List.length_eq_zero_iff.1 (by rw [unhide D1]; omega)
    rw [this]
    exact conv_lies Try.underlying22 Try.underlying5 Try.underlying9 0 c rfl (Or.inl rfl)
  have hA1 : ∀ q c, (convert 22 9 (.slice (some ⟨g, m, none⟩) k c)).run Try.prog (w3.drewN q) = .ok (.string (strOfNums ys)) (w3.drewN q) := fun q c => by
    refine conv_lies Try.underlying22 Try.underlying5 Try.underlying9 k c (unhide D1) (lies_draws (Or.inr ⟨g, m, rfl, fun i hi => ?_⟩) q)
    have := unhide L1 (m + i) (by rw [List.length_append]; have := unhide C1; omega)
    rw [this, List.getD_eq_getElem?_getD, List.getD_eq_getElem?_getD, List.getElem?_append_right (by have := unhide C1; omega), unhide C1, Nat.add_sub_cancel_left]
  have hsl : (m : Int) ≤ ((m + k : Nat) : Int) := by omega
  generalize strOfNums ys = t at *
  by_cases hk : cap2 = m
  · have k0 : k = 0 := by omega
    subst k0 hk
    have hA := hA0 rfl
    clear hA0 hA1
    go_quiet ((go_at_call 11; exact Calls.quiet_of_same (unhide QS _)))
    go_wp2_with fail
    go_ret
    exact ⟨rfl, (unhide Hb4).trans (below_draws _ _ _)⟩
  · clear hA0
    by_cases hm : m = 0
    · subst hm
      go_quiet ((go_at_call 11; exact Calls.quiet_of_same (unhide QS _)))
      go_wp2_with fail
      go_ret
      exact ⟨rfl, (unhide Hb4).trans (below_draws _ _ _)⟩
    · go_quiet ((go_at_call 11; exact Calls.quiet_of_same (unhide QS _)))
      go_wp2_with fail
      go_ret
      exact ⟨rfl, (unhide Hb4).trans (below_draws _ _ _)⟩

set_option maxRecDepth 100000 in
theorem lifted (os : Os) (started : os.Started) (H : Type) (enc : TypeId × Value → H) :
    ReturnsInHanded {} Try.checked os 8 .any (Rows.crcSpareSpec.pre6 enc Try.prog Try.f8 Rows.crcSpareRow.domain false) (Rows.crcSpareSpec.post enc Try.prog Try.f8 false true false false) := by
  refine law_frame (C := Try.checked) (ts := [22, 22]) (tb := 4) (by kernel_rfl) started (by kernel_rfl) Try.func8 Try.params8 (by kernel_rfl) Try.underlying4 (by kernel_rfl) (by kernel_rfl) rfl ?_
    (ChangeSpec.witness6 (enc := enc) (C := Try.checked) false ⟨#[], #[.slice none 0 0, .slice none 0 0], []⟩ 8 (by kernel_rfl) (by kernel_rfl) (by kernel_rfl) (by kernel_rfl)) ?_
  · intro ds hd
    match ds, hd with
    | [d0, d1], _ => rfl
  · intro W base args ds p hval hA
    obtain ⟨v0, vs0, d0, ds0, p0, q0, hargs, rfl, rfl, h0, r0⟩ := trodAll_cons hA
    obtain ⟨v1, vs1, d1, ds1, p1, q1, rfl, rfl, rfl, h1, r1⟩ := trodAll_cons r0
    obtain ⟨rfl, rfl, rfl⟩ := trodAll_nil r1
    obtain rfl : args = #[v0, v1] := by cases args; simp_all
    obtain ⟨au, bu, nu, cu, rfl, hu⟩ := open_row Try.underlying22 Try.underlying5 (by kernel_rfl) (hval 0 22 v0 rfl rfl) h0
    obtain ⟨av, bv, nv, cv, rfl, hv⟩ := open_row Try.underlying22 Try.underlying5 (by kernel_rfl) (hval 1 22 v1 rfl rfl) h1
    exact walk W au bu nu cu av bv nv cv hu hv

theorem over : Rows.crcSpareRow.holds Try.pinned (OpenSpec.ofChange Rows.crcSpareSpec) :=
  OpenClaim.holds_of_wide 8 Try.f8 rfl rfl rfl rfl rfl rfl rfl ⟨rfl, rfl, rfl, rfl, rfl⟩ rfl rfl rfl rfl rfl (by kernel_rfl) Try.func8 (by kernel_rfl)
    (of_decide_eq_true (by kernel_rfl)) (by unfold Func.isWrapper; first | (rw [if_pos (by decide +kernel)]; kernel_rfl) | (rw [if_neg (by decide +kernel)]; exact ⟨rfl, rfl⟩))
    (fun os started H enc _ => lifted os started H enc)

end Go.Proofs.Ytkhhgnainlnofaa.crcSpare
namespace Go.Proofs.Ytkhhgnainlnofaa
theorem crcSpare_holds : Rows.CrcSpareSaid := crcSpare.over
end Go.Proofs.Ytkhhgnainlnofaa
