/-
  The document's examples, at the head of all statements: they answer true, and leave what was there as it was.
-/
import Derived.Test.YtkoaajcfnnpiaaaNHas
namespace Go.Proofs.Ytkoaajcfnnpiaaa
open Go.ChangeShapes Go.WideShapes Go.ChangeAt Go.RowKit Go.Joins
set_option maxRecDepth 10000
set_option linter.unusedVariables false
set_option linter.unusedSimpArgs false

theorem in64_wf {z : Int} (h : (Lit.int .i64 z).wf = true) : In64 z := by
  simp [Lit.wf, IntKind.min, IntKind.max, IntKind.signed, IntKind.bits] at h; exact ⟨by omega, by omega⟩
theorem inU_wf {z : Int} (h : (Lit.int .u64 z).wf = true) : InU z := by
  simp [Lit.wf, IntKind.min, IntKind.max, IntKind.signed, IntKind.bits] at h; exact ⟨by omega, by omega⟩

def sh0 : Mm := Mm.new 64 fun _ _ => 0
def sh1 : Mm := sh0.store 3 0 7
def sh2 : Mm := sh1.flush 0 3
def sh3 : Mm := sh2.fence 0
def sh4 : Mm := sh3.store 3 1 8
def sh5 : Mm := sh4.crash []
def sh6 : Mm := sh5.store 3 1 8
def sh7 : Mm := sh6.store 3 2 9
def sh8 : Mm := sh7.crash [1]
def sh9 : Mm := sh8.fused 0
def sh10 : Mm := sh9.store 3 0 1
def sa (j : Nat) : Int := if j = 0 then 7 else 0
def sb (j : Nat) : Int := if j = 0 then 7 else if j = 1 then 8 else 0
theorem ok0 : sh0.ok 0 := ok_new (by decide) (by decide) (fun _ _ => ⟨by decide, by decide⟩)
theorem ok1 : sh1.ok 1 := ok_store ok0 _ _ _ (by decide) ⟨by decide, by decide⟩
theorem ok2 : sh2.ok 2 := ok_flush ok1 _ _
theorem ok3 : sh3.ok 3 := ok_fence ok2 _
theorem ok4 : sh4.ok 4 := ok_store ok3 _ _ _ (by decide) ⟨by decide, by decide⟩
theorem ok5 : sh5.ok 4 := ok_crash ok4 _
theorem ok6 : sh6.ok 5 := ok_store ok5 _ _ _ (by decide) ⟨by decide, by decide⟩
theorem ok7 : sh7.ok 6 := ok_store ok6 _ _ _ (by decide) ⟨by decide, by decide⟩
theorem ok8 : sh8.ok 6 := ok_crash ok7 _
theorem ok9 : sh9.ok 6 := ok_fused ok8 _ ⟨by decide, by decide⟩
theorem eqa : eqL (sh5.l 3).has sa = true := by decide +kernel
theorem eqb : eqL (sh8.l 3).has sb = true := by decide +kernel
theorem off10 : sh10.on = false := by decide +kernel
theorem err9 : sh9.err = 4 := by decide +kernel
theorem on5 : sh5.on = true := rfl
theorem on8 : sh8.on = true := rfl
theorem n5 : sh5.n = 64 := by decide +kernel
theorem n8 : sh8.n = 64 := by decide +kernel
theorem n1 : sh1.n = 64 := by decide +kernel
theorem n3 : sh3.n = 64 := by decide +kernel
theorem n6 : sh6.n = 64 := by decide +kernel
theorem n9 : sh9.n = 64 := by decide +kernel
theorem built_a : Try.prog.built 50 [(0, .int .u64 7)] = some (lnV sa) := by kernel_rfl
theorem built_b : Try.prog.built 50 [(0, .int .u64 7), (1, .int .u64 8)] = some (lnV sb) := by kernel_rfl

theorem shown_any (W : World) : Calls Try.prog 9 #[] W fun e w' => e = .returned (.bool true) ∧ Keeps (fun _ => False) W w' := by
  go_enter Try.func9, Try.ntmps9
  go_wp2_with fail
  refine (new_any W 64 (by decide) (by decide)).mono ?_
  intro e w0 hm
  obtain ⟨b, rfl, h0, -⟩ := made_has W (Keeps.refl _ _) hm (fun _ => False) (fun _ h => h.elim)
  have H0 : Hid (Has W w0 (fun _ => False) b sh0) := h0
  clear hm h0
  go_wp2_with fail
  refine ((unhide H0).store (ok_mono ok0 (by decide)) 3 0 3 0 rfl rfl (by decide) (by decide) 7).mono ?_
  rintro e w1 ⟨rfl, h1, -⟩
  have H1 : Hid (Has W w1 (fun _ => False) b sh1) := h1
  clear h1 H0 w0
  go_wp2_with fail
  refine ((unhide H1).flush (ok_mono ok1 (by decide)) 0 3 0 3 rfl rfl (by decide) (by rw [n1]; decide)).mono ?_
  rintro e w2 ⟨rfl, h1, -⟩
  have H2 : Hid (Has W w2 (fun _ => False) b sh2) := h1
  clear h1 H1 w1
  go_wp2_with fail
  refine ((unhide H2).fence (ok_mono ok2 (by decide)) 0 0 rfl (by decide)).mono ?_
  rintro e w3 ⟨rfl, h1, -⟩
  have H3 : Hid (Has W w3 (fun _ => False) b sh3) := h1
  clear h1 H2 w2
  go_wp2_with fail
  refine ((unhide H3).store (ok_mono ok3 (by decide)) 3 1 3 1 rfl rfl (by rw [n3]; decide) (by decide) 8).mono ?_
  rintro e w4 ⟨rfl, h1, -⟩
  have H4 : Hid (Has W w4 (fun _ => False) b sh4) := h1
  clear h1 H3 w3
  go_wp2_with fail
  refine ((unhide H4).crash_nil (ok_mono ok4 (by decide))).mono ?_
  rintro e w5 ⟨rfl, h1, -⟩
  have H5 : Hid (Has W w5 (fun _ => False) b sh5) := h1
  clear h1 H4 w4
  go_wp2_with fail
  refine ((unhide H5).load 3 3 rfl (by rw [n5]; decide) on5 (by rw [n5]; decide)).mono ?_
  rintro e w6 ⟨rfl, h1, -⟩
  have H6 : Hid (Has W w6 (fun _ => False) b sh5) := h1
  clear h1 H5 w5
  have hst := store_line (sh5.l 3).has
  have hsz := lnV_size (sh5.l 3).has
  go_wp2_with fail
  clear hst hsz
  have H7 := hide ((unhide H6).alloc (.cells (lnV (sh5.l 3).has) 50))
  have HL := hide (heap_new w6 (.cells (lnV (sh5.l 3).has) 50))
  obtain ⟨L, hL⟩ : ∃ L, L = w6.heap.size := ⟨_, rfl⟩
  rw [← hL] at H7 HL ⊢
  clear hL H6
  have H7' : Hid (Has W (w6.alloc (.cells (lnV (sh5.l 3).has) 50)) (fun k => k = L) b sh5) := (unhide H7).less (fun k hk => Or.inr hk)
  clear H7
  generalize w6.alloc (.cells (lnV (sh5.l 3).has) 50) = v0 at *
  refine ((unhide H7').store (ok_mono ok5 (by decide)) 3 1 3 1 rfl rfl (by rw [n5]; decide) (by decide) 8).mono ?_
  rintro e v1 ⟨rfl, h1, hs⟩
  have HL1 : Hid (v1.heap[L]? = some (.cells (lnV (sh5.l 3).has) 50 (0, 0))) := (hs L rfl).trans (unhide HL)
  have H8 : Hid (Has W v1 (fun k => k = L) b sh6) := h1
  clear h1 hs H7' HL
  clear v0
  go_wp2_with fail
  refine ((unhide H8).store (ok_mono ok6 (by decide)) 3 2 3 2 rfl rfl (by rw [n6]; decide) (by decide) 9).mono ?_
  rintro e v2 ⟨rfl, h1, hs⟩
  have HL2 : Hid (v2.heap[L]? = some (.cells (lnV (sh5.l 3).has) 50 (0, 0))) := (hs L rfl).trans (unhide HL1)
  have H9 : Hid (Has W v2 (fun k => k = L) b sh7) := h1
  clear h1 hs H8 HL1
  clear v1
  go_wp2_with fail
  have H10 := hide ((unhide H9).alloc (.cells #[.int .i64 1] 3))
  refine ((unhide H10).crash (ok_mono ok7 (by decide)) (some ⟨v2.heap.size, 0, none⟩) [1] 1 (by simp [In64]) (by simp) (Or.inr ⟨_, 0, rfl, fun i hi => ?_⟩) (fun x hx _ => ?_)).mono ?_
  · match i, hi with
    | 0, _ => rw [cell_of_block (heap_new v2 _)]; rfl
  · right; right; simp at hx; rw [← hx]
  rintro e v3 ⟨rfl, h1, hs⟩
  have HL3 : Hid (v3.heap[L]? = some (.cells (lnV (sh5.l 3).has) 50 (0, 0))) := (hs L (Or.inl rfl)).trans ((Below.heap_alloc v2 _ L ((unhide H9).lt L rfl)).trans (unhide HL2))
  have H11 : Hid (Has W v3 (fun k => k = L) b sh8) := h1.less (fun k hk => Or.inl hk)
  clear h1 hs H9 H10 HL2
  go_wp2_with fail
  refine ((unhide H11).load 3 3 rfl (by rw [n8]; decide) on8 (by rw [n8]; decide)).mono ?_
  rintro e v4 ⟨rfl, h1, hs⟩
  have HL4 : Hid (v4.heap[L]? = some (.cells (lnV (sh5.l 3).has) 50 (0, 0))) := (hs L rfl).trans (unhide HL3)
  have H12 : Hid (Has W v4 (fun k => k = L) b sh8) := h1
  clear h1 hs H11 HL3
  have hst := store_line (sh8.l 3).has
  have hsz := lnV_size (sh8.l 3).has
  go_wp2_with fail
  clear hst hsz
  have H13 := hide ((unhide H12).alloc (.cells (lnV (sh8.l 3).has) 50))
  have HM := hide (heap_new v4 (.cells (lnV (sh8.l 3).has) 50))
  have HL5 : Hid ((v4.alloc (.cells (lnV (sh8.l 3).has) 50)).heap[L]? = some (.cells (lnV (sh5.l 3).has) 50 (0, 0))) := (Below.heap_alloc v4 _ L ((unhide H12).lt L rfl)).trans (unhide HL4)
  obtain ⟨M, hM⟩ : ∃ M, M = v4.heap.size := ⟨_, rfl⟩
  rw [← hM] at H13 HM ⊢
  clear hM H12 HL4
  generalize v4.alloc (.cells (lnV (sh8.l 3).has) 50) = v5 at *
  refine ((unhide H13).fuse 0).mono ?_
  rintro e v6 ⟨rfl, h1, hs⟩
  have HL6 : Hid (v6.heap[L]? = some (.cells (lnV (sh5.l 3).has) 50 (0, 0))) := (hs L (Or.inl rfl)).trans (unhide HL5)
  have HM6 : Hid (v6.heap[M]? = some (.cells (lnV (sh8.l 3).has) 50 (0, 0))) := (hs M (Or.inr rfl)).trans (unhide HM)
  have H14 : Hid (Has W v6 (fun k => k = L ∨ k = M) b sh9) := h1
  clear h1 hs H13 HL5 HM
  go_wp2_with fail
  refine ((unhide H14).store (ok_mono ok9 (by decide)) 3 0 3 0 rfl rfl (by rw [n9]; decide) (by decide) 1).mono ?_
  rintro e v7 ⟨rfl, h1, hs⟩
  have HL7 : Hid (v7.heap[L]? = some (.cells (lnV (sh5.l 3).has) 50 (0, 0))) := (hs L (Or.inl rfl)).trans (unhide HL6)
  have HM7 : Hid (v7.heap[M]? = some (.cells (lnV (sh8.l 3).has) 50 (0, 0))) := (hs M (Or.inr rfl)).trans (unhide HM6)
  have H15 : Hid (Has W v7 (fun k => k = L ∨ k = M) b sh10) := h1
  clear h1 hs H14 HL6 HM6
  rw [err9]
  have s8a : (Try.prog.info? 50).map (·.size) = some (lnV (sh5.l 3).has).size := by rw [lnV_size]; exact lsize
  have s8b : (Try.prog.info? 50).map (·.size) = some (lnV (sh8.l 3).has).size := by rw [lnV_size]; exact lsize
  have ea := eqa
  have eb := eqb
  go_wp2_with (first | (refine wpList_load_row_g (by rfl) 50 (.tmp 3) rfl L rfl _ _ _ _ (unhide HL7) Try.underlying50 rfl s8a ?_) | (refine wpList_load_row_g (by rfl) 50 (.tmp 5) rfl M rfl _ _ _ _ (unhide HM7) Try.underlying50 rfl s8b ?_) | (refine wpList_buildL (by rfl) _ rfl sa built_a ?_) | (refine wpList_buildL (by rfl) _ rfl sb built_b ?_) | (refine wpList_eql (by rfl) (.tmp 49) (.tmp 50) rfl (sh5.l 3).has sa rfl rfl ?_; rw [eqa]) | (refine wpList_eql (by rfl) (.tmp 53) (.tmp 54) rfl (sh8.l 3).has sb rfl rfl ?_; rw [eqb]) | (go_at_call 19; refine ((unhide H15).isOn).mono ?_; rintro e v8 ⟨rfl, rfl⟩; rw [off10]))
  go_ret
  exact ⟨rfl, (unhide H15).keeps⟩

end Go.Proofs.Ytkoaajcfnnpiaaa
