/-
  The document's examples, at the head of each statement of layer 2: they hold; nothing that was there turns.
-/
import Derived.Test.YtkhhgnainlnofaaCSeal
import Derived.Lib.SlBytesConst
namespace Go.Proofs.Ytkhhgnainlnofaa
open Go.ChangeShapes Go.WideShapes Go.ChangeAt Go.RowKit Go.Joins
set_option linter.unusedVariables false

theorem wf_zeros : ∀ z ∈ List.replicate 8 (0 : Int), (Lit.int .u64 z).wf = true := by decide
theorem good_zeros : goodB (List.replicate 8 0) = false := by decide +kernel
theorem good_sealed : goodB (sealOf (List.replicate 8 0)) = true := by decide +kernel

/-- The sum of a row of constants that was just laid. -/
theorem sum_new (bs : List Int) (n : Nat) (hn : bs.length = n) (hn2 : n ≤ 9223372036854775807) (hb : Bytes8 bs) (x : Nat) (hx : moreN 0 bs = x) (cs : Array Value) (hcs : cs = iv .u8 bs) (W : World) (t : TypeId) (fr : Nat × Nat) (g : Nat) (hg : g = W.heap.size) :
    Calls Try.prog 11 #[.slice (some ⟨g, 0, none⟩) n n] (W.alloc (.cells cs t fr)) fun e w' => e = .returned (.int .u32 (x : Int)) ∧ w' = W.alloc (.cells cs t fr) := by
  subst hcs hg
  rw [← hx]
  exact sum_len _ bs n n hn hb hn2 _ (Or.inr ⟨_, _, rfl, fun i hi => by rw [cell_of_block (heap_new W _), Nat.zero_add, iv_get _ _ _ hi]⟩)
theorem more_new (s : Nat) (hs : s < 4294967296) (bs : List Int) (n : Nat) (hn : bs.length = n) (hn2 : n ≤ 9223372036854775807) (hb : Bytes8 bs) (x : Nat) (hx : moreN s bs = x) (cs : Array Value) (hcs : cs = iv .u8 bs) (W : World) (t : TypeId) (fr : Nat × Nat) (g : Nat) (hg : g = W.heap.size) :
    Calls Try.prog 13 #[.int .u32 (s : Int), .slice (some ⟨g, 0, none⟩) n n] (W.alloc (.cells cs t fr)) fun e w' => e = .returned (.int .u32 (x : Int)) ∧ w' = W.alloc (.cells cs t fr) := by
  subst hcs hg
  rw [← hx]
  exact more_len s hs _ bs n n hn hb hn2 _ (Or.inr ⟨_, _, rfl, fun i hi => by rw [cell_of_block (heap_new W _), Nat.zero_add, iv_get _ _ _ hi]⟩)

theorem info8 : (Try.prog.info? 5).map (fun i => (i.zero, i.size, i.bytes)) = some (some (.int .u8 0), 1, 1) := by kernel_rfl
theorem m9 : moreN 0 [49, 50, 51, 52, 53, 54, 55, 56, 57] = 3421780262 := by decide +kernel
theorem m4 : moreN 0 [49, 50, 51, 52] = 2615402659 := by decide +kernel
theorem m5 : moreN 2615402659 [53, 54, 55, 56, 57] = 3421780262 := by decide +kernel
theorem m0 : moreN 0 [] = 0 := by decide +kernel
theorem good_lit (zs : List Int) (hl : zs.length = 8) (hw : ∀ z ∈ zs, (Lit.int .u64 z).wf = true) (cs : Array Value) (hcs : cs = iv .u64 zs) (b : Bool) (hb : goodB zs = b) (W : World) :
    Calls Try.prog 17 #[.agg cs] W fun e w' => e = .returned (.bool b) ∧ Below W.heap.size W w' := by
  subst hcs hb; exact good_any zs hl hw W
theorem seal_lit (zs : List Int) (hl : zs.length = 8) (hw : ∀ z ∈ zs, (Lit.int .u64 z).wf = true) (cs ss : Array Value) (hcs : cs = iv .u64 zs) (hss : ss = iv .u64 (sealOf zs)) (W : World) :
    Calls Try.prog 15 #[.agg cs] W fun e w' => e = .returned (.agg ss) ∧ Below W.heap.size W w' := by
  subst hcs hss; exact seal_any zs hl hw W
theorem built8 : Try.prog.built 32 [] = some (iv .u64 (List.replicate 8 0)) := by kernel_rfl

theorem shown_any (w : World) :
    Calls Try.prog 9 #[] w fun e w' => e = .returned (.bool true) ∧ Below w.heap.size w w' := by
  have hcv : ∀ (W : World) (g : Nat) (C : Array Value) (n c : Nat), g = W.heap.size → (convert 22 22 (.slice (some ⟨g, 0, none⟩) n c)).run Try.prog (W.alloc (.cells C 5)) = .ok (.slice (some ⟨g, 0, none⟩) n c) (W.alloc (.cells C 5 (C.size, C.size + 1))) :=
    fun W g C n c hg => by subst hg; exact Lib.run_convert_bytes_const (P := Try.prog) W 22 5 C n c Try.underlying22 Try.underlying5
  go_enter Try.func9, Try.ntmps9
  go_wp2_with fail
  refine (sum_len none [] 0 0 rfl (by simp [Bytes8]) (by decide) _ (Or.inl rfl)).mono ?_
  rintro e w' ⟨rfl, rfl⟩
  rw [m0]
  go_wp2_with fail
  refine (sum_new _ 9 rfl (by decide) (by simp [Bytes8]) _ m9 _ rfl _ _ _ _ (by simp)).mono ?_
  rintro e w1 ⟨rfl, rfl⟩
  go_wp2_with fail
  refine (sum_new _ 4 rfl (by decide) (by simp [Bytes8]) _ m4 _ rfl _ _ _ _ (by simp)).mono ?_
  rintro e w1 ⟨rfl, rfl⟩
  go_wp2_with fail
  refine (more_new _ (by decide) _ 5 rfl (by decide) (by simp [Bytes8]) _ m5 _ rfl _ _ _ _ (by simp)).mono ?_
  rintro e w1 ⟨rfl, rfl⟩
  go_wp2_with fail
  refine (good_lit (List.replicate 8 0) rfl wf_zeros _ rfl _ good_zeros _).mono ?_
  rintro e w1 ⟨rfl, hb1⟩
  obtain ⟨ss, hss⟩ : ∃ ss : Array Value, ss = iv .u64 (sealOf (List.replicate 8 0)) := ⟨_, rfl⟩
  have C3 := hide (seal_lit (List.replicate 8 0) rfl wf_zeros _ ss rfl hss)
  have C4 := hide (good_lit (sealOf (List.replicate 8 0)) (by rw [sealOf_len]; rfl) (sealOf_wf _ wf_zeros) ss hss _ good_sealed)
  have Hb1 := hide ((below_alloc3 w' _ _ _).trans (hb1.mono (by simp; omega)))
  clear hb1 hss
  go_wp2_with fail
  refine (unhide C3 _).mono ?_
  rintro e w2 ⟨rfl, hb2⟩
  have Hb2 := hide ((unhide Hb1).trans (hb2.mono (unhide Hb1).size))
  clear hb2
  go_wp2_with fail
  refine (unhide C4 _).mono ?_
  rintro e w3 ⟨rfl, hb3⟩
  have Hb3 := hide ((unhide Hb2).trans (hb3.mono (unhide Hb2).size))
  clear hb3
  go_wp2_with fail
  go_ret
  exact ⟨rfl, unhide Hb3⟩

end Go.Proofs.Ytkhhgnainlnofaa
