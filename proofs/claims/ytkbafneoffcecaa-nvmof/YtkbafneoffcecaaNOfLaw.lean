/-
  For every row of lines, NvmOf returns true and leaves its argument as it was: a memory has the lines that it is made of, all of them sure, or is refused; and what is handed in stays the caller's. No condition.
-/
import Derived.Test.YtkbafneoffcecaaNSame
import Derived.Test.YtkbafneoffcecaaLawSized
import Derived.Test.YtkbafneoffcecaaRows
import Derived.Test.YtkbafneoffcecaaNLines
import Derived.Laws.AppendOwnNone
namespace Go.Proofs.Ytkbafneoffcecaa.nvmOf
open Go.ChangeShapes Go.WideShapes Go.ChangeAt Go.RowKit Go.Joins Go.Deep
set_option linter.unusedVariables false
set_option linter.unusedSimpArgs false

theorem wpList_buildV {ops : Array Oper} {rest : List Oper} {o : Oper} {a : Act} {w : World} {Q : Exit → Act → World → Prop} (hw : Region.wanted o (yielded ops a.tmps) = true) (i : Nat) (x : Operand) (ho : o.op = .build 50 #[(i, x)]) (u : Value) (hx : a.eval x = u) (cs : Array Value)
    (hb : Try.prog.built 50 [(i, u)] = some cs) (h : wpList Try.prog ops Q rest (a.put o.dst (.agg cs)) w) : wpList Try.prog ops Q (o :: rest) a w :=
  wpList_step fun K hK => by
    rw [if_pos hw]
    have h2 := run_build (P := Try.prog) w 50 #[(i, u)] cs hb
    unfold Oper.wp execOp
    simp [ho, hx, Sem.run_bind, h2]
    exact hK _ _ h
def five (j : Nat) : Int := if j = 0 then 5 else 0
theorem built_5 : Try.prog.built 50 [(0, .int .u64 5)] = some (lnV five) := by kernel_rfl

set_option maxRecDepth 100000 in
set_option maxHeartbeats 4000000 in
theorem walk (W : World) (a : Option Addr) (n cap : Nat) (s : Nat → Nat → Int) (hL : IsLines W a n cap s) :
    Calls Try.prog 4 #[.slice a n cap] W fun e W' => e = .returned (.bool true) ∧ Below W.heap.size W W' := by
  obtain ⟨l1, l2, l3, l4, l5⟩ := hL
  have LA := hide l1
  have LU := hide l2
  have LN := hide l5
  clear l1 l2 l5
  obtain ⟨i0, hi, hz0, hz1, hz2⟩ := info_parts info_line
  go_enter Try.func4, Try.ntmps4
  go_wp2_with fail
  refine (shown_any W).mono ?_
  rintro e w0 ⟨rfl, hk0⟩
  have HK0 := hide hk0
  have O2 : Hid ((w0.alloc (.cells #[] 50)).ownsRow w0.heap.size 50 8 (.slice (some ⟨w0.heap.size, 0, none⟩) 0 0) 0 []) := World.ownsRow_lit (base := w0.heap.size) (e := 50) (size := 8) w0 #[] 0 (Nat.le_refl _) (by decide) rfl
  clear hk0
  have hbig : Hid True := trivial
  by_cases ha : a = none
  · obtain ⟨rfl, rfl⟩ := unhide LN ha
    subst ha
    go_upto_region 3 with (at_builtin; refine wpList_append_own_none rfl (.tmp 9) (.tmp 10) 42 rfl w0.heap.size 50 i0 8 Try.underlying42 hi (.slice (some ⟨w0.heap.size, 0, none⟩) 0 0) 0 [] rfl (unhide O2) rfl ?_)
    clear hi hz0 hz1 hz2 i0
    go_wp2_with fail
    refine (of_bad _ _ 0 0 (by decide)).mono ?_
    rintro e w1 ⟨rfl, rfl⟩
    go_wp2_with fail
    go_ret
    exact ⟨rfl, ((unhide HK0).alloc _).below (Nat.le_refl _) (fun _ h => h.elim)⟩
  · obtain ⟨x, rfl⟩ : ∃ x, a = some x := Option.ne_none_iff_exists'.1 ha
    clear ha
    have hcells : ∀ j u, (linesV n s)[j]? = some u → (w0.alloc (.cells #[] 50)).cell? (x.add j) = some u := by
      intro j u hj
      rcases unhide LA with h0 | ⟨b, off, e, h⟩
      · subst h0; simp [linesV] at hj
      · cases e
        have := lines_cells h j u hj
        rw [Addr.add_mid] at this ⊢
        exact ((unhide HK0).alloc _).cellOf this id
    have HC := hide hcells
    clear hcells
    go_upto_region 3 with (at_builtin; refine wpList_append_own _ rfl (.tmp 9) (.tmp 10) 42 rfl w0.heap.size 50 i0 _ 8 64 Try.underlying42 hi hz0 hz1 hz2 rfl (by decide) (.slice (some ⟨w0.heap.size, 0, none⟩) 0 0) 0 [] rfl (unhide O2) x n cap (linesV n s) rfl (linesV_len n s) (unhide HC) (linesV_one n s) (by unfold maxLen; omega) (by omega) (by simp) ?_; intro v' w2 hown hgrow hnil)
    have hvn : v' ≠ .slice none 0 0 := fun h => by have := hnil.1 h; simp at this
    rw [Nat.zero_add, List.nil_append] at hown
    obtain ⟨g, cap2, rfl, hg1, hg2, hg3, hgr, hgt⟩ := own_lines hown hvn
    have HK2 : Hid (Keeps (fun _ => False) W w2) := Keeps.grown ((unhide HK0).alloc _) hgrow (fun k hk => by simp [Value.ownBlock] at hk; right; have := (unhide HK0).size; omega)
    have HGR := hide hgr
    have HGT := hide hgt
    have HWG : Hid (W.heap.size ≤ g) := Nat.le_trans (unhide HK0).size hg1
    clear hown hgrow hnil hvn hgr hgt hi hz0 hz1 hz2 i0 O2 HC hg1
    by_cases hin : 64 ≤ n ∧ n ≤ 1024
    · obtain ⟨hn1, hn2⟩ := hin
      go_wp2_with fail
      refine (of_any w2 _ n cap2 s hn1 hn2 (Or.inr ⟨g, 0, rfl, fun i hi => by rw [Nat.zero_add]; exact unhide HGR i hi⟩)).mono ?_
      intro e w3 hm
      obtain ⟨p, rfl, h3, hs3⟩ := made_has W (unhide HK2) hm (fun k => k = g) (fun k hk => by rw [hk]; exact hg2)
      have H3 := hide h3
      have HT3 : Hid (w3.there g 0 (n * 8)) := fun j hj => by
        rw [World.cell?_of_block (w := w2) (hs3 g rfl), World.frozen?_of_block (w := w2) (hs3 g rfl)]; exact unhide HGT j hj
      clear hm h3 hs3 HGR HGT HK2
      have e64 : (64 : Int) ≤ (n : Int) := by omega
      have e1024 : (n : Int) ≤ 1024 := by omega
      go_wp2_with fail
      go_loopw [7] (fun i wr => ∃ k : Nat, k ≤ n ∧ i = .int .i64 k ∧ Has W wr (fun k => k = g) p (Mm.new n s) ∧ wr.there g 0 (n * 8)) (fun i _ => n - (intOf i).toNat)
      case atStart => exact ⟨0, by omega, rfl, unhide H3, unhide HT3⟩
      case round =>
        clear H3 HT3
        obtain ⟨k, hk, rfl, hr, ht⟩ := hrel
        have HR := hide hr
        have HT := hide ht
        clear hr ht
        by_cases hlt : k < n
        · have hlt' : (k : Int) < (n : Int) := by omega
          obtain ⟨Lc, hLc⟩ : ∃ Lc, Lc = lnV five := ⟨_, rfl⟩
          have s8 : (Try.prog.info? 50).map (·.size) = some Lc.size := by rw [hLc, lnV_size]; exact lsize
          have hb5 : Try.prog.built 50 [(0, .int .u64 5)] = some Lc := by rw [hLc]; exact built_5
          have ho5 : Lc.all (·.oneCell') = true := by rw [hLc]; exact lnV_one _
          have HB5 := hide hb5
          have HO5 := hide ho5
          have hth : Hid (wr.there g (k * 8) Lc.size) := by rw [hLc, lnV_size]; exact fun j hj => by have := unhide HT (k * 8 + j) (by omega); rw [Nat.zero_add] at this; exact this
          clear hLc hb5 ho5
          have HR1 : Hid (Has W (wr.setCells g (k * 8) Lc.toList) (fun k => k = g) p (Mm.new n s)) := (unhide HR).own rfl (unhide HWG) (Keeps.setCells (F := (· = g)) (Or.inl rfl) _ _ _ (Keeps.refl _ _))
          have HT1 : Hid ((wr.setCells g (k * 8) Lc.toList).there g 0 (n * 8)) := World.there_setCells (unhide HT) _ _ _
          go_wp2_with (first | (refine wpList_buildV (by rfl) 0 _ rfl _ rfl Lc (unhide HB5) ?_) | (refine wpList_store_mid rfl 50 _ _ rfl g (k * 8) Lc rfl rfl (unhide hth) s8 (unhide HO5) ?_))
          go_roundw
          case rel => exact ⟨k + 1, by omega, by go_num, unhide HR1, unhide HT1⟩
          case measure => simp [intOf]; omega
        · have hge : ¬ ((k : Int) < (n : Int)) := by omega
          have hok : (Mm.new n s).ok 1000 := ok_mono (ok_new hn1 hn2 (unhide LU)) (by omega)
          go_wp2_with fail
          refine ((unhide HR).crash_nil hok).mono ?_
          rintro e w4 ⟨rfl, h4, -⟩
          obtain ⟨D, hD⟩ : ∃ D, D = (Mm.new n s).crash [] := ⟨_, rfl⟩
          have DN : Hid (D.n = n) := by rw [hD]; rfl
          have DS : Hid (∀ i, (D.l i).s = s i) := fun i => by rw [hD]; rfl
          have DO : Hid (D.on = true) := by rw [hD]; rfl
          have DT : Hid (D.steps = 0) := by rw [hD]; rfl
          rw [← hD] at h4
          have H4 := hide h4
          clear h4 HR HT hD hok
          go_wp2_with fail
          refine ((unhide H4).sure (by rw [unhide DN]; exact hn2)).mono ?_
          rintro e w5 ⟨ga, rfl, hra, h5, -, -⟩
          rw [unhide DN] at hra ⊢
          have RA := hide hra
          have H5 := hide h5
          clear hra h5 H4
          have LA5 : Hid (LinesAt w5 (some x) n s) := by
            rcases unhide LA with h0 | ⟨b, off, e, h⟩
            · exact Or.inl h0
            · exact Or.inr ⟨b, off, e, fun i hi => rangeAt_keeps (h i hi) (unhide H5).keeps id⟩
          go_wp2_with fail
          refine (same_true w5 _ _ n _ _ _ _ (by omega) (unhide RA).lines (unhide LA5) (fun i _ => by rw [unhide DS i]; exact eqL_refl _)).mono ?_
          rintro e w6 ⟨rfl, hk6⟩
          have H6 : Hid (Has W w6 (fun _ => False) p D) := by
            obtain ⟨F, c, cs, r1, r2, r3, r4⟩ := unhide H5
            exact ⟨F, c, cs, r1.keeps hk6 (fun _ _ => id), r2.trans' hk6, r3, fun k hk => hk.elim⟩
          have ST : Hid (Calls Try.prog 20 #[.pointer (some ⟨p, 0, none⟩)] w6 fun e w' => e = .returned (.int .i64 0) ∧ w' = w6) := by have := (unhide H6).steps; rw [unhide DT] at this; exact this
          have ON : Hid (Calls Try.prog 19 #[.pointer (some ⟨p, 0, none⟩)] w6 fun e w' => e = .returned (.bool true) ∧ w' = w6) := by have := (unhide H6).isOn; rw [unhide DO] at this; exact this
          clear hk6 H5 RA LA5
          go_wp2_with (first | (go_at_call 20; refine (unhide ST).mono ?_; rintro e w6 ⟨rfl, rfl⟩) | (go_at_call 19; refine (unhide ON).mono ?_; rintro e w6 ⟨rfl, rfl⟩))
          go_ret
          exact ⟨rfl, (unhide H6).keeps.below (Nat.le_refl _) (fun _ h => h.elim)⟩
    · go_wp2_with fail
      refine (of_bad _ _ n cap2 hin).mono ?_
      rintro e w3 ⟨rfl, rfl⟩
      by_cases h64 : (64 : Int) ≤ (n : Int)
      · have h1024 : ¬ ((n : Int) ≤ 1024) := by omega
        go_wp2_with fail
        go_ret
        exact ⟨rfl, (unhide HK2).below (Nat.le_refl _) (fun _ h => h.elim)⟩
      · go_wp2_with fail
        go_ret
        exact ⟨rfl, (unhide HK2).below (Nat.le_refl _) (fun _ h => h.elim)⟩

set_option maxRecDepth 100000 in
theorem lifted (os : Os) (started : os.Started) (H : Type) (enc : TypeId × Value → H) :
    ReturnsInHanded {} Try.checked os 4 .any (Rows.nvmOfSpec.pre6 enc Try.prog Try.f4 Rows.nvmOfRow.domain false) (Rows.nvmOfSpec.post enc Try.prog Try.f4 false true false false) := by
  refine law_frame_sized (C := Try.checked) (ts := [42]) (tb := 4) (by kernel_rfl) started (by kernel_rfl) Try.func4 Try.params4 (by kernel_rfl) Try.underlying4 (by kernel_rfl) (by kernel_rfl) rfl ?_
    (ChangeSpec.witness6 (enc := enc) (C := Try.checked) false ⟨#[], #[.slice none 0 0], []⟩ 8 (by kernel_rfl) (by kernel_rfl) (by kernel_rfl) (by kernel_rfl)) ?_
  · intro ds hd
    match ds, hd with
    | [d0], _ => rfl
  · intro W base args ds p hval hA hsz
    obtain ⟨v0, vs0, d0, ds0, p0, q0, hargs, rfl, rfl, h0, r0⟩ := trodAll_cons hA
    obtain ⟨rfl, rfl, rfl⟩ := trodAll_nil r0
    obtain rfl : args = #[v0] := by cases args; simp_all
    obtain ⟨a, n, cap, s, rfl, hL⟩ := open_lines (hval 0 42 v0 rfl rfl) h0 hsz
    exact walk W a n cap s hL

theorem over : Rows.nvmOfRow.holds Try.pinned (OpenSpec.ofChange Rows.nvmOfSpec) :=
  OpenClaim.holds_of_wide 4 Try.f4 rfl rfl rfl rfl rfl rfl rfl ⟨rfl, rfl, rfl, rfl, rfl⟩ rfl rfl rfl rfl rfl (by kernel_rfl) Try.func4 (by kernel_rfl)
    (of_decide_eq_true (by kernel_rfl)) (by unfold Func.isWrapper; first | (rw [if_pos (by decide +kernel)]; kernel_rfl) | (rw [if_neg (by decide +kernel)]; exact ⟨rfl, rfl⟩))
    (fun os started H enc _ => lifted os started H enc)

end Go.Proofs.Ytkbafneoffcecaa.nvmOf
namespace Go.Proofs.Ytkbafneoffcecaa
theorem nvmOf_holds : Rows.NvmOfSaid := nvmOf.over
end Go.Proofs.Ytkbafneoffcecaa
