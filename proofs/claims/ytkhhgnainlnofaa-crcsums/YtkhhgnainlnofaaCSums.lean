/-
  For every row of bytes and every sum, CrcSums returns true and leaves its arguments as they were: any bytes' sum is the document's, with any behind, and they stay. No condition.
-/
import Derived.Test.YtkhhgnainlnofaaCShown
import Derived.Test.YtkhhgnainlnofaaLaw
namespace Go.Proofs.Ytkhhgnainlnofaa.crcSums
open Go.ChangeShapes Go.WideShapes Go.ChangeAt Go.RowKit Go.Joins
set_option linter.unusedVariables false

set_option maxHeartbeats 1000000 in
theorem walk (W : World) (a : Option Addr) (bs : List Int) (n cap : Nat) (sum : Int) (h : IsBytes W a bs n cap) (ws : (Lit.int .u32 sum).wf = true) :
    Calls Try.prog 3 #[.slice a n cap, .int .u32 sum] W fun e W' => e = .returned (.bool true) ∧ Below W.heap.size W W' := by
  obtain ⟨cs, m, _, ⟨c1, c2, c3, c4, c5, c6⟩, m300, hfew⟩ := few_of h
  obtain ⟨s, rfl, hs⟩ : ∃ s : Nat, sum = (s : Int) ∧ s < 4294967296 := by
    simp [Lit.wf, IntKind.min, IntKind.max, IntKind.signed, IntKind.bits] at ws
    exact ⟨sum.toNat, by omega, by omega⟩
  have HF := hide hfew
  have C2 := hide c2
  have C3 := hide c3
  have C1 := hide c1
  clear hfew c2 c3 c1 h
  go_enter Try.func3, Try.ntmps3
  go_wp2_with fail
  refine (shown_any _).mono ?_
  rintro e w1 ⟨rfl, hb1⟩
  have Hb1 := hide hb1
  clear hb1
  go_wp2_with fail
  refine (unhide HF _ _ (Nat.le_refl _) (unhide Hb1)).mono ?_
  rintro e w1 ⟨rfl, rfl⟩
  have hB1 : W.heap.size ≤ w1.heap.size := (unhide Hb1).size
  have Hb2 : Hid (Below W.heap.size W (w1.alloc (.cells #[] 5))) := (unhide Hb1).alloc hB1 _
  have O2 : Hid ((w1.alloc (.cells #[] 5)).ownsRow W.heap.size 5 1 (.slice (some ⟨w1.heap.size, 0, none⟩) 0 0) 0 (([] : List Int).map (Value.int .u8))) := World.ownsRow_lit (base := W.heap.size) (e := 5) (size := 1) w1 #[] 0 hB1 (by decide) rfl
  go_wp2_with (at_builtin; refine wpList_append_lies rfl _ _ 22 rfl W.heap.size 5 Try.underlying22 info8 _ 0 [] rfl (unhide O2) a m cap rfl cs (unhide C1) (lies_below (unhide C2) (Nat.le_refl _) (unhide Hb2)) c6 (by omega) (unhide Hb2).size ?_; intro v' w2 hown hbw _; obtain ⟨a2, cap2, rfl, l1, l2, l3, l4, l5⟩ := lies_own hown; have L1 := hide l1; have Hbw := hide hbw; clear hown hbw l1)
  have Hb3 : Hid (Below W.heap.size W w2) := (unhide Hb2).trans (unhide Hbw)
  have L0 : Hid (Lies w2 a cs) := lies_below (unhide C2) (Nat.le_refl _) (unhide Hb3)
  have L2 : Hid (Lies w2 a2 cs) := unhide L1
  clear L1 Hbw Hb2 O2 HF Hb1
  have Hc1 := hide (conv_lies (P := Try.prog) (w := w2) (dst := 9) Try.underlying22 Try.underlying5 Try.underlying9 m cap2 (unhide C1) (unhide L2))
  have Hc0 := hide (conv_lies (P := Try.prog) (w := w2) (dst := 9) Try.underlying22 Try.underlying5 Try.underlying9 m cap (unhide C1) (unhide L0))
  refine (sum_len a2 cs m cap2 (unhide C1) (unhide C3) (by omega) _ (unhide L2)).mono ?_
  rintro e w2 ⟨rfl, rfl⟩
  go_wp2_with fail
  refine (rsum_len a cs m cap (unhide C1) (unhide C3) (by omega) _ (unhide L0)).mono ?_
  rintro e w2 ⟨rfl, rfl⟩
  go_wp2_with fail
  refine (more_len s hs a2 cs m cap2 (unhide C1) (unhide C3) (by omega) _ (unhide L2)).mono ?_
  rintro e w2 ⟨rfl, rfl⟩
  go_wp2_with fail
  refine (rmore_len s hs a cs m cap (unhide C1) (unhide C3) (by omega) _ (unhide L0)).mono ?_
  rintro e w2 ⟨rfl, rfl⟩
  have hc1 := unhide Hc1
  have hc0 := unhide Hc0
  clear Hc1 Hc0
  generalize strOfNums cs = t at *
  go_wp2_with fail
  go_ret
  exact ⟨rfl, unhide Hb3⟩

set_option maxRecDepth 100000 in
theorem lifted (os : Os) (started : os.Started) (H : Type) (enc : TypeId × Value → H) :
    ReturnsInHanded {} Try.checked os 3 .any (Rows.crcSumsSpec.pre6 enc Try.prog Try.f3 Rows.crcSumsRow.domain false) (Rows.crcSumsSpec.post enc Try.prog Try.f3 false true false false) := by
  refine law_frame (C := Try.checked) (ts := [22, 23]) (tb := 4) (by kernel_rfl) started (by kernel_rfl) Try.func3 Try.params3 (by kernel_rfl) Try.underlying4 (by kernel_rfl) (by kernel_rfl) rfl ?_
    (ChangeSpec.witness6 (enc := enc) (C := Try.checked) false ⟨#[], #[.slice none 0 0, .int .u32 0], []⟩ 8 (by kernel_rfl) (by kernel_rfl) (by kernel_rfl) (by kernel_rfl)) ?_
  · intro ds hd
    match ds, hd with
    | [d0, d1], _ => rfl
  · intro W base args ds p hval hA
    obtain ⟨v0, vs0, d0, ds0, p0, q0, hargs, rfl, rfl, h0, r0⟩ := trodAll_cons hA
    obtain ⟨v1, vs1, d1, ds1, p1, q1, rfl, rfl, rfl, h1, r1⟩ := trodAll_cons r0
    obtain ⟨rfl, rfl, rfl⟩ := trodAll_nil r1
    obtain rfl : args = #[v0, v1] := by cases args; simp_all
    obtain ⟨ax, bx, nx, cx, rfl, hx⟩ := open_row Try.underlying22 Try.underlying5 (by kernel_rfl) (hval 0 22 v0 rfl rfl) h0
    obtain ⟨s, rfl, rfl, rfl, ws⟩ := open_int Try.underlying23 (hval 1 23 v1 rfl rfl) h1
    exact walk W ax bx nx cx s hx ws

theorem over : Rows.crcSumsRow.holds Try.pinned (OpenSpec.ofChange Rows.crcSumsSpec) :=
  OpenClaim.holds_of_wide 3 Try.f3 rfl rfl rfl rfl rfl rfl rfl ⟨rfl, rfl, rfl, rfl, rfl⟩ rfl rfl rfl rfl rfl (by kernel_rfl) Try.func3 (by kernel_rfl)
    (of_decide_eq_true (by kernel_rfl)) (by unfold Func.isWrapper; first | (rw [if_pos (by decide +kernel)]; kernel_rfl) | (rw [if_neg (by decide +kernel)]; exact ⟨rfl, rfl⟩))
    (fun os started H enc _ => lifted os started H enc)

end Go.Proofs.Ytkhhgnainlnofaa.crcSums
namespace Go.Proofs.Ytkhhgnainlnofaa
theorem crcSums_holds : Rows.CrcSumsSaid := crcSums.over
end Go.Proofs.Ytkhhgnainlnofaa
