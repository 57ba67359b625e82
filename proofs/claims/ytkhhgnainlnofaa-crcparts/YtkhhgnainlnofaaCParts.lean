/-
  For every two rows of bytes, CrcParts returns true and leaves its arguments as they were: the sum of two parts, one behind the other, is that of the whole. No condition.
-/
import Derived.Test.YtkhhgnainlnofaaCShown
import Derived.Test.YtkhhgnainlnofaaLaw
namespace Go.Proofs.Ytkhhgnainlnofaa.crcParts
open Go.ChangeShapes Go.WideShapes Go.ChangeAt Go.RowKit Go.Joins
set_option linter.unusedVariables false

set_option maxHeartbeats 1000000 in
theorem walk (W : World) (a : Option Addr) (ds : List Int) (na ca : Nat) (b : Option Addr) (bs : List Int) (nb cb : Nat) (ha : IsBytes W a ds na ca) (hb : IsBytes W b bs nb cb) :
    Calls Try.prog 4 #[.slice a na ca, .slice b nb cb] W fun e W' => e = .returned (.bool true) ∧ Below W.heap.size W W' := by
  obtain ⟨xs, m, -, ⟨c1, c2, c3, c4, c5, c6⟩, m300, hfa⟩ := few_of ha
  obtain ⟨ys, k, -, ⟨d1, d2, d3, d4, d5, d6⟩, k300, hfb⟩ := few_of hb
  have HA := hide hfa
  have HB := hide hfb
  have C1 := hide c1
  have C2 := hide c2
  have C3 := hide c3
  have D1 := hide d1
  have D2 := hide d2
  have D3 := hide d3
  clear hfa hfb c1 c2 c3 d1 d2 d3 ha hb
  have E1 : Hid (moreN (moreN 0 xs) ys = moreN 0 (xs ++ ys)) := moreN_append 0 xs ys
  have B0 : Hid (moreN 0 xs < 4294967296) := moreN_lt (unhide C3) (by decide)
  have BW : Hid (Bytes8 (xs ++ ys)) := b8_append (unhide C3) (unhide D3)
  have B1 : Hid (moreN 0 (xs ++ ys) < 4294967296) := moreN_lt (unhide BW) (by decide)
  have E2 : Hid (moreN (moreN 0 (xs ++ ys)) [] = moreN 0 (xs ++ ys)) := moreN_nil _
  go_enter Try.func4, Try.ntmps4
  go_wp2_with fail
  refine (shown_any _).mono ?_
  rintro e w1 ⟨rfl, hb1⟩
  have Hb1 := hide hb1
  clear hb1
  go_wp2_with fail
  refine (unhide HA _ _ (Nat.le_refl _) (unhide Hb1)).mono ?_
  rintro e w1 ⟨rfl, rfl⟩
  go_wp2_with fail
  refine (unhide HB _ _ (Nat.le_refl _) (unhide Hb1)).mono ?_
  rintro e w1 ⟨rfl, rfl⟩
  have hB1 : W.heap.size ≤ w1.heap.size := (unhide Hb1).size
  have Hb2 : Hid (Below W.heap.size W (w1.alloc (.cells #[] 5))) := (unhide Hb1).alloc hB1 _
  have O2 : Hid ((w1.alloc (.cells #[] 5)).ownsRow W.heap.size 5 1 (.slice (some ⟨w1.heap.size, 0, none⟩) 0 0) 0 (([] : List Int).map (Value.int .u8))) := World.ownsRow_lit (base := W.heap.size) (e := 5) (size := 1) w1 #[] 0 hB1 (by decide) rfl
  go_wp2_with (first
    | (at_builtin; refine wpList_append_lies rfl (.tmp 12) (.tmp 13) 22 rfl W.heap.size 5 Try.underlying22 info8 _ 0 [] rfl (unhide O2) a m ca rfl xs (unhide C1) (lies_below (unhide C2) (Nat.le_refl _) (unhide Hb2)) c6 (by omega) (unhide Hb2).size ?_; intro v1 w2 hown1 hbw1 _; rw [Nat.zero_add, List.nil_append] at hown1; have O3 := hide hown1; have Hb3 := hide ((unhide Hb2).trans hbw1); clear hown1 hbw1)
    | (at_builtin; refine wpList_append_lies rfl (.tmp 14) (.tmp 15) 22 rfl W.heap.size 5 Try.underlying22 info8 _ m xs rfl (unhide O3) b k cb rfl ys (unhide D1) (lies_below (unhide D2) (Nat.le_refl _) (unhide Hb3)) d6 (by omega) (unhide Hb3).size ?_; intro v2 w3 hown2 hbw2 _; obtain ⟨a2, cap2, rfl, l1, l2, l3, l4, l5⟩ := lies_own hown2; have L1 := hide l1; have L2 := hide l2; have Hb4 := hide ((unhide Hb3).trans hbw2); clear hown2 hbw2 l1 l2))
  have LA : Hid (Lies w3 a xs) := lies_below (unhide C2) (Nat.le_refl _) (unhide Hb4)
  have LB : Hid (Lies w3 b ys) := lies_below (unhide D2) (Nat.le_refl _) (unhide Hb4)
  refine (sum_len a xs m ca (unhide C1) (unhide C3) (by omega) _ (unhide LA)).mono ?_
  rintro e w3 ⟨rfl, rfl⟩
  go_wp2_with fail
  refine (more_len _ (unhide B0) b ys k cb (unhide D1) (unhide D3) (by omega) _ (unhide LB)).mono ?_
  rintro e w3 ⟨rfl, rfl⟩
  rw [unhide E1]
  go_wp2_with fail
  refine (sum_len a2 (xs ++ ys) (m + k) cap2 (unhide L2) (unhide BW) (by omega) _ (unhide L1)).mono ?_
  rintro e w3 ⟨rfl, rfl⟩
  go_wp2_with fail
  refine (sum_len a2 (xs ++ ys) (m + k) cap2 (unhide L2) (unhide BW) (by omega) _ (unhide L1)).mono ?_
  rintro e w3 ⟨rfl, rfl⟩
  go_wp2_with fail
  refine (more_len _ (unhide B1) none [] 0 0 rfl (by simp [Bytes8]) (by omega) _ (Or.inl rfl)).mono ?_
  rintro e w3 ⟨rfl, rfl⟩
  rw [unhide E2]
  go_wp2_with fail
  refine (sum_len a2 (xs ++ ys) (m + k) cap2 (unhide L2) (unhide BW) (by omega) _ (unhide L1)).mono ?_
  rintro e w3 ⟨rfl, rfl⟩
  go_wp2_with fail
  refine (more_len 0 (by decide) b ys k cb (unhide D1) (unhide D3) (by omega) _ (unhide LB)).mono ?_
  rintro e w3 ⟨rfl, rfl⟩
  go_wp2_with fail
  refine (sum_len b ys k cb (unhide D1) (unhide D3) (by omega) _ (unhide LB)).mono ?_
  rintro e w3 ⟨rfl, rfl⟩
  go_wp2_with fail
  go_ret
  exact ⟨rfl, unhide Hb4⟩

set_option maxRecDepth 100000 in
theorem lifted (os : Os) (started : os.Started) (H : Type) (enc : TypeId × Value → H) :
    ReturnsInHanded {} Try.checked os 4 .any (Rows.crcPartsSpec.pre6 enc Try.prog Try.f4 Rows.crcPartsRow.domain false) (Rows.crcPartsSpec.post enc Try.prog Try.f4 false true false false) := by
  refine law_frame (C := Try.checked) (ts := [22, 22]) (tb := 4) (by kernel_rfl) started (by kernel_rfl) Try.func4 Try.params4 (by kernel_rfl) Try.underlying4 (by kernel_rfl) (by kernel_rfl) rfl ?_
    (ChangeSpec.witness6 (enc := enc) (C := Try.checked) false ⟨#[], #[.slice none 0 0, .slice none 0 0], []⟩ 8 (by kernel_rfl) (by kernel_rfl) (by kernel_rfl) (by kernel_rfl)) ?_
  · intro ds hd
    match ds, hd with
    | [d0, d1], _ => rfl
  · intro W base args ds p hval hA
    obtain ⟨v0, vs0, d0, ds0, p0, q0, hargs, rfl, rfl, h0, r0⟩ := trodAll_cons hA
    obtain ⟨v1, vs1, d1, ds1, p1, q1, rfl, rfl, rfl, h1, r1⟩ := trodAll_cons r0
    obtain ⟨rfl, rfl, rfl⟩ := trodAll_nil r1
    obtain rfl : args = #[v0, v1] := by cases args; simp_all
    obtain ⟨au, bu, nu, cu, rfl, hu⟩ := open_row Try.underlying22 Try.underlying5 (by kernel_rfl) (hval 0 22 v0 rfl rfl) h0
    obtain ⟨av, bv, nv, cv, rfl, hv⟩ := open_row Try.underlying22 Try.underlying5 (by kernel_rfl) (hval 1 22 v1 rfl rfl) h1
    exact walk W au bu nu cu av bv nv cv hu hv

theorem over : Rows.crcPartsRow.holds Try.pinned (OpenSpec.ofChange Rows.crcPartsSpec) :=
  OpenClaim.holds_of_wide 4 Try.f4 rfl rfl rfl rfl rfl rfl rfl ⟨rfl, rfl, rfl, rfl, rfl⟩ rfl rfl rfl rfl rfl (by kernel_rfl) Try.func4 (by kernel_rfl)
    (of_decide_eq_true (by kernel_rfl)) (by unfold Func.isWrapper; first | (rw [if_pos (by decide +kernel)]; kernel_rfl) | (rw [if_neg (by decide +kernel)]; exact ⟨rfl, rfl⟩))
    (fun os started H enc _ => lifted os started H enc)

end Go.Proofs.Ytkhhgnainlnofaa.crcParts
namespace Go.Proofs.Ytkhhgnainlnofaa
theorem crcParts_holds : Rows.CrcPartsSaid := crcParts.over
end Go.Proofs.Ytkhhgnainlnofaa
