/-
  For every two cores and every value, NvmCores returns true and leaves its arguments as they were: what one core has flushed is not sure by another one's Fence. No condition.
-/
import Derived.Test.YtkbafneoffcecabNShown
import Derived.Test.YtkbafneoffcecabLaw
import Derived.Test.YtkbafneoffcecabRows
namespace Go.Proofs.Ytkbafneoffcecab.nvmCores
open Go.ChangeShapes Go.WideShapes Go.ChangeAt Go.RowKit Go.Joins
set_option linter.unusedVariables false
set_option linter.unusedSimpArgs false

def m0 : Mm := Mm.new 64 fun _ _ => 0
def m1 (v : Int) : Mm := m0.store 1 0 v
def m2 (v : Int) (x : Nat) : Mm := (m1 v).flush x 1
def m3 (v : Int) (x y : Nat) : Mm := (m2 v x).fence y
def m4 (v : Int) (x y : Nat) : Mm := (m3 v x y).crash []
def one (v : Int) (j : Nat) : Int := if j = 0 then v else 0
theorem k0 : m0.ok 0 := ok_new (by decide) (by decide) (fun _ _ => ⟨by decide, by decide⟩)
theorem k1 (v : Int) (hv : InU v) : (m1 v).ok 1 := ok_store k0 _ _ _ (by decide) hv
theorem k2 (v : Int) (hv : InU v) (x : Nat) : (m2 v x).ok 2 := ok_flush (k1 v hv) _ _
theorem k3 (v : Int) (hv : InU v) (x y : Nat) : (m3 v x y).ok 3 := ok_fence (k2 v hv x) _
theorem may0 : m0.may = true := rfl
theorem s1 (v : Int) : m1 v = m0.stepped (upd m0.l 1 ((m0.l 1).store 0 v)) := rfl
theorem s2 (v : Int) (x : Nat) : m2 v x = (m1 v).stepped (upd (m1 v).l 1 (((m1 v).l 1).flush x)) := rfl
theorem s3 (v : Int) (x y : Nat) : m3 v x y = (m2 v x).stepped (fun i => ((m2 v x).l i).settle (((m2 v x).l i).f y)) := rfl
theorem l2 (v : Int) (x : Nat) : (m2 v x).l 1 = ⟨fun _ => 0, [(0, v)], upd (fun _ => 0) x 1⟩ := rfl
theorem l4 (v : Int) (x y : Nat) : ((m4 v x y).l 1).has = runS ([(0, v)].take (upd (fun _ => 0) x 1 y)) (fun _ => 0) := by
  show ((((m3 v x y).l 1).settle 0).lose).has = _
  rw [Ln.settle_zero, Ln.lose_has, s3]
  show (((m2 v x).l 1).settle (((m2 v x).l 1).f y)).s = _
  rw [l2]; rfl
theorem has_same (v : Int) (x : Nat) : ((m4 v x x).l 1).has = one v := by
  rw [l4, upd_same]; rfl
theorem has_other (v : Int) (x y : Nat) (h : x ≠ y) : ((m4 v x y).l 1).has = fun _ => 0 := by
  rw [l4, upd_other _ _ _ _ (Ne.symm h)]; rfl
theorem built_one (v : Int) : Try.prog.built 34 [(0, .int .u64 v)] = some (lnV (one v)) := by kernel_rfl

theorem walk (a b v : Int) (wa : (Lit.int .i64 a).wf = true) (wb : (Lit.int .i64 b).wf = true) (wv : (Lit.int .u64 v).wf = true) (W : World) :
    Calls Try.prog 3 #[.int .i64 a, .int .i64 b, .int .u64 v] W fun e W' => e = .returned (.bool true) ∧ Below W.heap.size W W' := by
  have ha : In64 a := in64_wf wa
  have hb : In64 b := in64_wf wb
  have hv : InU v := inU_wf wv
  obtain ⟨x, hx⟩ : ∃ x, x = kindN a 8 := ⟨_, rfl⟩
  obtain ⟨y, hy⟩ : ∃ y, y = kindN b 8 := ⟨_, rfl⟩
  have hx8 : x < 8 := by rw [hx]; exact kindN_lt _ _ (by decide)
  have hy8 : y < 8 := by rw [hy]; exact kindN_lt _ _ (by decide)
  have CA : Hid (∀ w, Calls Try.prog 8 #[.int .i64 a, .int .i64 8] w fun e w' => e = .returned (.int .i64 (x : Int)) ∧ w' = w) := fun w => by rw [hx]; exact kind_any a ha 8 (by decide) (by decide) w
  have CB : Hid (∀ w, Calls Try.prog 8 #[.int .i64 b, .int .i64 8] w fun e w' => e = .returned (.int .i64 (y : Int)) ∧ w' = w) := fun w => by rw [hy]; exact kind_any b hb 8 (by decide) (by decide) w
  clear hx hy wa wb wv
  go_enter Try.func3, Try.ntmps3
  go_wp2_with fail
  refine (shown_any W).mono ?_
  rintro e w0 ⟨rfl, hk0⟩
  go_wp2_with fail
  refine (new_any w0 64 (by decide) (by decide)).mono ?_
  intro e w1 hm
  obtain ⟨p, rfl, h0, -⟩ := made_has W hk0 hm (fun _ => False) (fun _ h => h.elim)
  have H0 : Hid (Has W w1 (fun _ => False) p m0) := h0
  clear hm h0 hk0
  go_wp2_with fail
  refine (unhide CA _).mono ?_
  rintro e w1 ⟨rfl, rfl⟩
  go_wp2_with fail
  refine (unhide CB _).mono ?_
  rintro e w1 ⟨rfl, rfl⟩
  clear CA CB
  go_wp2_with fail
  refine ((unhide H0).store (ok_mono k0 (by decide)) 1 0 1 0 rfl rfl (by decide) (by decide) v).mono ?_
  rintro e w2 ⟨rfl, h1, -⟩
  have H1 : Hid (Has W w2 (fun _ => False) p (m1 v)) := h1
  clear h1 H0
  go_wp2_with fail
  refine ((unhide H1).flush (ok_mono (k1 v hv) (by decide)) x 1 x 1 rfl rfl hx8 (show 1 < 64 by decide)).mono ?_
  rintro e w3 ⟨rfl, h1, -⟩
  have H2 : Hid (Has W w3 (fun _ => False) p (m2 v x)) := h1
  clear h1 H1
  go_wp2_with fail
  refine ((unhide H2).fence (ok_mono (k2 v hv x) (by decide)) y y rfl hy8).mono ?_
  rintro e w4 ⟨rfl, h1, -⟩
  have H3 : Hid (Has W w4 (fun _ => False) p (m3 v x y)) := h1
  clear h1 H2
  go_wp2_with fail
  refine ((unhide H3).crash_nil (ok_mono (k3 v hv x y) (by decide))).mono ?_
  rintro e w5 ⟨rfl, h1, -⟩
  have H4 : Hid (Has W w5 (fun _ => False) p (m4 v x y)) := h1
  clear h1 H3
  go_wp2_with fail
  refine ((unhide H4).load 1 1 rfl (show 1 < 64 by decide) rfl (show 64 ≤ 1024 by decide)).mono ?_
  rintro e w6 ⟨rfl, h1, -⟩
  have H5 : Hid (Has W w6 (fun _ => False) p (m4 v x y)) := h1
  clear h1 H4
  obtain ⟨f, hf⟩ : ∃ f, f = ((m4 v x y).l 1).has := ⟨_, rfl⟩
  rw [← hf]
  have HF := hide hf
  clear hf
  have hst := store_line f
  have hsz := lnV_size f
  go_upto_region 12 with fail
  clear hst hsz
  have HL := hide (heap_new w6 (.cells (lnV f) 34))
  have HB : Hid (Below W.heap.size W (w6.alloc (.cells (lnV f) 34))) := ((unhide H5).keeps.alloc _).below (Nat.le_refl _) (fun _ h => h.elim)
  obtain ⟨L, hL⟩ : ∃ L, L = w6.heap.size := ⟨_, rfl⟩
  rw [← hL] at HL ⊢
  clear hL H5
  generalize w6.alloc (.cells (lnV f) 34) = V at *
  have s8 : (Try.prog.info? 34).map (·.size) = some (lnV f).size := by rw [lnV_size]; exact lsize
  by_cases hxy : x = y
  · subst hxy
    have he : eqL f (one v) = true := by rw [unhide HF, has_same]; exact eqL_refl _
    go_wp2_with (first | (refine wpList_load_row rfl 34 _ rfl L rfl _ _ _ _ (unhide HL) Try.underlying34 rfl s8 ?_) | (refine wpList_buildL (by rfl) _ rfl (one v) (built_one v) ?_) | (refine wpList_eql (by rfl) (.tmp 48) (.tmp 50) rfl f (one v) rfl rfl ?_; rw [he]))
    go_ret
    exact ⟨rfl, unhide HB⟩
  · have hne : ((x : Int) == (y : Int)) = false := beq_eq_false_iff_ne.2 (by omega)
    have he : eqL f (fun _ => 0) = true := by rw [unhide HF, has_other _ _ _ hxy]; exact eqL_refl _
    go_wp2_with (first | (refine wpList_load_row rfl 34 _ rfl L rfl _ _ _ _ (unhide HL) Try.underlying34 rfl s8 ?_) | (refine wpList_buildL (by rfl) _ rfl (fun _ => 0) line_zero ?_) | (refine wpList_eql (by rfl) (.tmp 52) (.tmp 53) rfl f (fun _ => 0) rfl rfl ?_; rw [he]))
    go_ret
    exact ⟨rfl, unhide HB⟩

set_option maxRecDepth 100000 in
theorem lifted (os : Os) (started : os.Started) (H : Type) (enc : TypeId × Value → H) :
    ReturnsInHanded {} Try.checked os 3 .any (Rows.nvmCoresSpec.pre6 enc Try.prog Try.f3 Rows.nvmCoresRow.domain false) (Rows.nvmCoresSpec.post enc Try.prog Try.f3 false true false false) := by
  refine law_frame (C := Try.checked) (ts := [3, 3, 22]) (tb := 4) (by kernel_rfl) started (by kernel_rfl) Try.func3 Try.params3 (by kernel_rfl) Try.underlying4 (by kernel_rfl) (by kernel_rfl) rfl ?_
    (ChangeSpec.witness6 (enc := enc) (C := Try.checked) false ⟨#[], #[.int .i64 0, .int .i64 0, .int .u64 0], []⟩ 8 (by kernel_rfl) (by kernel_rfl) (by kernel_rfl) (by kernel_rfl)) ?_
  · intro ds hd
    match ds, hd with
    | [d0, d1, d2], _ => rfl
  · intro W base args ds p hval hA
    obtain ⟨v0, vs0, d0, ds0, p0, q0, hargs, rfl, rfl, h0, r0⟩ := trodAll_cons hA
    obtain ⟨v1, vs1, d1, ds1, p1, q1, rfl, rfl, rfl, h1, r1⟩ := trodAll_cons r0
    obtain ⟨v2, vs2, d2, ds2, p2, q2, rfl, rfl, rfl, h2, r2⟩ := trodAll_cons r1
    obtain ⟨rfl, rfl, rfl⟩ := trodAll_nil r2
    obtain rfl : args = #[v0, v1, v2] := by cases args; simp_all
    obtain ⟨a, rfl, rfl, rfl, wa⟩ := open_int Try.underlying3 (hval 0 3 v0 rfl rfl) h0
    obtain ⟨b, rfl, rfl, rfl, wb⟩ := open_int Try.underlying3 (hval 1 3 v1 rfl rfl) h1
    obtain ⟨v, rfl, rfl, rfl, wv⟩ := open_int Try.underlying22 (hval 2 22 v2 rfl rfl) h2
    exact walk a b v wa wb wv W

theorem over : Rows.nvmCoresRow.holds Try.pinned (OpenSpec.ofChange Rows.nvmCoresSpec) :=
  OpenClaim.holds_of_wide 3 Try.f3 rfl rfl rfl rfl rfl rfl rfl ⟨rfl, rfl, rfl, rfl, rfl⟩ rfl rfl rfl rfl rfl (by kernel_rfl) Try.func3 (by kernel_rfl)
    (of_decide_eq_true (by kernel_rfl)) (by unfold Func.isWrapper; first | (rw [if_pos (by decide +kernel)]; kernel_rfl) | (rw [if_neg (by decide +kernel)]; exact ⟨rfl, rfl⟩))
    (fun os started H enc _ => lifted os started H enc)

end Go.Proofs.Ytkbafneoffcecab.nvmCores
namespace Go.Proofs.Ytkbafneoffcecab
theorem nvmCores_holds : Rows.NvmCoresSaid := nvmCores.over
end Go.Proofs.Ytkbafneoffcecab
