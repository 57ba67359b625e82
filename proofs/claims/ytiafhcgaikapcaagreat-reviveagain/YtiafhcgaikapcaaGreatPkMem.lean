import Derived.Test.YtiafhcgaikapcaaGreatPkSu
import Derived.Test.YtiafhcgaikapcaaGreatPkNvm
import Derived.Test.YtiafhcgaikapcaaGreatHeld

/-
  Superblocks in a memory, in plain mathematics: what is written, what is found.
-/
namespace Go.Proofs.YtiafhcgaikapcaaGreat
open Go.ChangeShapes Go.WideShapes Go.ChangeAt Go.RowKit Go.Joins
set_option maxRecDepth 10000
set_option linter.unusedVariables false

/-! ### Write -/
def okW (slot : Int) (s : List Int) : Bool := decide (slot = 0 ∨ slot = 1) && mayS s
def Mm.writeZ (A : Mm) (core slot : Int) (s : List Int) : Mm :=
  if okW slot s then
    if (A.puts slot.toNat (lineV s) 8).on then
      if (A.puts slot.toNat (lineV s) 8).flushE core slot = 0 then ((A.puts slot.toNat (lineV s) 8).flushZ core slot).fenceZ core else (A.puts slot.toNat (lineV s) 8).flushZ core slot
    else A.puts slot.toNat (lineV s) 8
  else A
def Mm.writeE (A : Mm) (core slot : Int) (s : List Int) : Int :=
  if okW slot s then
    if (A.puts slot.toNat (lineV s) 8).on then
      if (A.puts slot.toNat (lineV s) 8).flushE core slot = 0 then ((A.puts slot.toNat (lineV s) 8).flushZ core slot).fenceE core else (A.puts slot.toNat (lineV s) 8).flushE core slot
    else 4
  else 1
theorem writeZ_n (A : Mm) (core slot : Int) (s : List Int) : (A.writeZ core slot s).n = A.n := by
  unfold Mm.writeZ
  split
  · split
    · split
      · rw [fenceZ_n, flushZ_n, puts_n]
      · rw [flushZ_n, puts_n]
    · exact puts_n _ _ _ _
  · rfl
theorem ok_writeZ {A : Mm} {B : Nat} (h : A.ok B) (core slot : Int) (s : List Int) : (A.writeZ core slot s).ok (B + 11) := by
  have h8 := ok_puts h slot.toNat (lineV s) (getD_inU (lineV_wf s)) 8 (Nat.le_refl _)
  unfold Mm.writeZ
  split
  · split
    · split
      · exact ok_mono (ok_fenceZ (ok_flushZ h8 core slot) core) (by omega)
      · exact ok_mono (ok_flushZ h8 core slot) (by omega)
    · exact ok_mono h8 (by omega)
  · exact ok_mono h (by omega)

/-! ### Find -/
def Mm.bestM (A : Mm) : Bool := bestIs (rowOf (A.l 0).has) (rowOf (A.l 1).has)
def Mm.findV (A : Mm) : List Int := if A.on && A.bestM then bestV (rowOf (A.l 0).has) (rowOf (A.l 1).has) else zs4
def Mm.findAt (A : Mm) : Int := if A.on && A.bestM then bestAt (rowOf (A.l 0).has) (rowOf (A.l 1).has) else 0
def Mm.findE (A : Mm) : Int := if A.on then if A.bestM then 0 else 20 else 4
theorem findV_len (A : Mm) : A.findV.length = 4 := by
  unfold Mm.findV; split
  · exact bestV_len _ _
  · rfl

end Go.Proofs.YtiafhcgaikapcaaGreat


/-
  super's put: a line stored to a slot, word by word, till the power goes off.
-/
namespace Go.Proofs.YtiafhcgaikapcaaGreat
open Go.ChangeShapes Go.WideShapes Go.ChangeAt Go.RowKit Go.Joins
set_option maxRecDepth 10000
set_option linter.unusedVariables false
set_option linter.unusedSimpArgs false

/-- A word of a line, by value. -/
theorem run_index_line (W : World) (cs : Array Value) (k : IntKind) (i : Nat) (h8 : i < 8) (v : Value) (h : cs[i]? = some v) :
    Sem.run Tryz.prog (Instr.index 83 (.agg cs) (.int k (i : Int))) W = .ok v W := by
  have h8' : (0 : Int) ≤ (i : Int) ∧ (i : Int) < 8 := by omega
  simp [Instr.index, run_underlying Tryz.underlying83, asIntOf, h8, go_sem, part, h]
theorem Has.put {W w : World} {G : Nat → Prop} {b : Nat} {A : Mm} (h : Has W w G b A) (hok : A.ok 900) (z : Int) (k : Nat) (ez : z = (k : Int)) (hk : k < A.n) (l : List Int) (hl : l.length = 8) (hw : ∀ x ∈ l, (Lit.int .u64 x).wf = true) :
    Calls Tryz.prog 166 #[.pointer (some ⟨b, 0, none⟩), .int .i64 z, .agg (iv .u64 l)] w (After W w G b (A.puts k l 8) (.int .i64 (A.puts k l 8).onE)) := by
  subst ez
  have HK := hide hk
  have HO : Hid (∀ j, j ≤ 8 → (A.puts k l j).ok 1000) := fun j hj => ok_mono (ok_puts hok k l (getD_inU hw) j hj) (by omega)
  have HN : Hid (∀ j, (A.puts k l j).n = A.n) := puts_n A k l
  have O0 := hide ((Held.start (Has.stay W b A) h).alloc (Has.stay W b A) (.cells (iv .u64 l) 83))
  have s8 : (Tryz.prog.info? 83).map (·.size) = some (iv .u64 l).size := by rw [iv_size, hl]; exact size8
  have HA := hide (ok_mono hok (show 900 ≤ 1000 by decide))
  have HE0 : Hid (A.err = (A.puts k l 0).onE) := store_err A k 7 0
  have HE : Hid (∀ j, (A.puts k l j).err = (A.puts k l (j + 1)).onE) := fun j => store_err _ _ _ _
  have HX : Hid (∀ j, j < 8 → (iv .u64 l)[j]? = some (.int .u64 (l.getD j 0))) := fun j hj => iv_get _ _ _ (by omega)
  have H8 : Hid (∀ j, j ≤ 8 → (A.puts k l j).on = false → A.puts k l 8 = A.puts k l j) := fun j hj hf => by
    have := puts_off A k l j hf (8 - j)
    rwa [show j + (8 - j) = 8 by omega] at this
  have HS : Hid (∀ j, (A.puts k l j).store k j (l.getD j 0) = A.puts k l (j + 1)) := fun j => rfl
  have HS0 : Hid (A.store k 7 0 = A.puts k l 0) := rfl
  obtain ⟨PM, hPM⟩ : ∃ PM, PM = A.puts k l := ⟨_, rfl⟩
  rw [← hPM] at HO HN HE0 HE H8 HS HS0 ⊢
  clear h hok hw hk hl hPM
  generalize iv .u64 l = LV at *
  go_enter Tryz.func166, Tryz.ntmps166
  go_wp2_with fail
  refine ((unhide O0).st.store (unhide HA) k 7 k 7 rfl rfl (unhide HK) (by decide) 0).mono ?_
  rw [unhide HS0]
  rintro e w1 ⟨rfl, h1, h2⟩
  have O1 := hide ((unhide O0).call (St' := fun w G => Has W w G b (PM 0)) h1 h2)
  rw [unhide HE0]
  clear h1 h2 O0
  cases hon : (PM 0).on with
  | false =>
    have e8 := hide (unhide H8 0 (by omega) hon)
    have e9 := hide hon
    rw [onE_off hon]
    clear hon
    go_wp2_with fail
    go_ret
    rw [unhide e8, onE_off (unhide e9)]
    exact (unhide O1).done (Has.stay W b _) _
  | true =>
    have HN0 := hide hon
    rw [onE_on hon]
    clear hon
    have KL := hide ((unhide O1).at w.heap.size (.cells LV 83) (by simp))
    go_wp2_with (refine wpList_load_row rfl 83 _ rfl w.heap.size rfl _ _ _ _ (unhide KL) Tryz.underlying83 rfl s8 ?_)
    go_loopw [18] (fun c wr => ∃ j : Nat, j ≤ 8 ∧ c = .int .i64 j ∧ (PM j).on = true ∧ Held W (fun w G => Has W w G b (PM j)) w wr G [(w.heap.size, .cells LV 83)]) (fun c _ => 8 - (intOf c).toNat)
    case atStart => exact ⟨0, by omega, rfl, unhide HN0, unhide O1⟩
    case round =>
      clear O1 KL HN0
      obtain ⟨j, hj, rfl, hon, hh⟩ := hrel
      have HH := hide hh
      have HON := hide hon
      clear hh hon
      by_cases hlt : j < 8
      · have hlt' : (j : Int) < 8 := by omega
        have hix := fun W => run_index_line W LV .i64 j hlt _ (unhide HX j hlt)
        go_wp2_with fail
        refine ((unhide HH).st.store (unhide HO j (by omega)) k j k j rfl rfl (by rw [unhide HN]; exact unhide HK) hlt (l.getD j 0)).mono ?_
        rw [unhide HS]
        rintro e w2 ⟨rfl, h1, h2⟩
        have O2 := hide ((unhide HH).call (St' := fun w G => Has W w G b (PM (j + 1))) h1 h2)
        rw [unhide HE]
        clear h1 h2 HH hix
        cases hon : (PM (j + 1)).on with
        | false =>
          have e8 := hide (unhide H8 (j + 1) (by omega) hon)
          have e9 := hide hon
          rw [onE_off hon]
          clear hon
          go_wp2_with fail
          go_ret
          rw [unhide e8, onE_off (unhide e9)]
          exact (unhide O2).done (Has.stay W b _) _
        | true =>
          have HN0 := hide hon
          rw [onE_on hon]
          clear hon
          go_wp2_with fail
          go_roundw
          case rel => exact ⟨j + 1, by omega, by go_num, unhide HN0, unhide O2⟩
          case measure => simp [intOf]; omega
      · obtain rfl : j = 8 := by omega
        go_wp2_with fail
        go_ret
        rw [onE_on (unhide HON)]
        exact (unhide HH).done (Has.stay W b _) _

end Go.Proofs.YtiafhcgaikapcaaGreat


/-
  super's put, Write and Find, on a memory beside blocks of the call's own.
-/
namespace Go.Proofs.YtiafhcgaikapcaaGreat
open Go.ChangeShapes Go.WideShapes Go.ChangeAt Go.RowKit Go.Joins
set_option maxRecDepth 10000
set_option linter.unusedVariables false
set_option linter.unusedSimpArgs false

/-! ### Find -/
theorem find_off {W w : World} {G : Nat → Prop} {b : Nat} {A : Mm} (h : Has W w G b A) (hok : A.ok 1000) (hon : A.on = false) :
    Calls Tryz.prog 45 #[.pointer (some ⟨b, 0, none⟩)] w (After W w G b A (.tuple #[.agg (iv .i64 zs4), .int .i64 0, .int .i64 4])) := by
  have T := Has.stay W b A
  have HN := hide hok.1
  have HO := hide hon
  have O0 := hide ((Held.start T h).alloc T (.cells (iv .i64 zs4) 49))
  have HK := hide (heap_new w (.cells (iv .i64 zs4) 49))
  have n8 := iv_new .u64 (rowOf fun _ => 0) 8 (rowOf_len _) 83
  have z8 : (iv .u64 (rowOf fun _ => 0)).size = 8 := by rw [iv_size, rowOf_len]
  have s4 : (Tryz.prog.info? 49).map (·.size) = some (iv .i64 zs4).size := size4
  clear h hok hon
  go_enter Tryz.func45, Tryz.ntmps45
  go_wp2_with fail
  rw [zero4]
  obtain ⟨g, hg⟩ : ∃ g, g = w.heap.size := ⟨_, rfl⟩
  rw [← hg] at O0 HK ⊢
  clear hg
  generalize w.alloc (.cells (iv .i64 zs4) 49) = v0 at *
  refine ((unhide O0).st.load_off 0 ⟨by omega, by have := unhide HN; omega⟩ (unhide HO)).mono ?_
  rintro e w1 ⟨rfl, h1, h2⟩
  rw [lnV_iv]
  have O1 := hide (((unhide O0).call h1 h2).alloc T (.cells (iv .u64 (rowOf fun _ => 0)) 83))
  have K1 := hide ((unhide O1).at g (.cells (iv .i64 zs4) 49) (by simp))
  clear h1 h2 O0 HK
  go_wp2_with (first | (refine wpList_build0 rfl 49 rfl _ build4 ?_) | (refine wpList_store_row rfl 49 _ _ rfl g (iv .i64 zs4) rfl rfl _ _ (unhide K1) s4 rfl (iv_one _ _) ?_))
  refine bodyPost_ret (v := .tuple #[.agg (iv .i64 zs4), .int .i64 0, .int .i64 4]) (results_three Tryz.results45 _ _ g 49 (iv .i64 zs4) (0, 0) _ _ _ rfl rfl rfl (setRow_heap _ _ _ _ _ _ (unhide K1)) Tryz.underlying49 rfl s4) rfl ?_
  exact ((unhide O1).row T g (iv .i64 zs4) 49 (0, 0) (by simp) _).done T _

theorem find_on {W w : World} {G : Nat → Prop} {b : Nat} {A : Mm} (h : Has W w G b A) (hok : A.ok 1000) (hon : A.on = true) :
    Calls Tryz.prog 45 #[.pointer (some ⟨b, 0, none⟩)] w (After W w G b A (.tuple #[.agg (iv .i64 A.findV), .int .i64 A.findAt, .int .i64 A.findE])) := by
  have T := Has.stay W b A
  have HN := hide hok.1
  have HM := hide hok.2.1
  have HO := hide hon
  have O0 := hide ((Held.start T h).alloc T (.cells (iv .i64 zs4) 49))
  have n8 := iv_new .u64 (rowOf (A.l 0).has) 8 (rowOf_len _) 83
  have z8 : (iv .u64 (rowOf (A.l 0).has)).size = 8 := by rw [iv_size, rowOf_len]
  have n9 := iv_new .u64 (rowOf (A.l 1).has) 8 (rowOf_len _) 83
  have z9 : (iv .u64 (rowOf (A.l 1).has)).size = 8 := by rw [iv_size, rowOf_len]
  have C := hide (best_any (rowOf (A.l 0).has) (rowOf (A.l 1).has) ⟨rowOf_len _, rowOf_wf _ (Ln.has_inU (hok.2.2.1 0))⟩ ⟨rowOf_len _, rowOf_wf _ (Ln.has_inU (hok.2.2.1 1))⟩)
  have s8 : (Tryz.prog.info? 83).map (·.size) = some (iv .u64 (rowOf (A.l 0).has)).size := by rw [iv_size, rowOf_len]; exact size8
  have s9 : (Tryz.prog.info? 83).map (·.size) = some (iv .u64 (rowOf (A.l 1).has)).size := by rw [iv_size, rowOf_len]; exact size8
  have L0 := hide (lnV_iv (A.l 0).has)
  have L1 := hide (lnV_iv (A.l 1).has)
  obtain ⟨V, hV⟩ : ∃ V, V = bestV (rowOf (A.l 0).has) (rowOf (A.l 1).has) := ⟨_, rfl⟩
  obtain ⟨I, hI⟩ : ∃ I, I = bestAt (rowOf (A.l 0).has) (rowOf (A.l 1).has) := ⟨_, rfl⟩
  have s4 : (Tryz.prog.info? 49).map (·.size) = some (iv .i64 A.findV).size := by rw [iv_size, findV_len]; exact size4
  have s5 : (Tryz.prog.info? 49).map (·.size) = some (iv .i64 V).size := by rw [iv_size, hV, bestV_len]; exact size4
  have l4 : (iv .i64 zs4).size = (iv .i64 V).size := by rw [iv_size, iv_size, hV, bestV_len]; rfl
  have hE : A.findE = if A.bestM then 0 else 20 := by simp [Mm.findE, hon]
  have hF : A.findV = if A.bestM then V else zs4 := by simp [Mm.findV, hon, hV]
  have hA : A.findAt = if A.bestM then I else 0 := by simp [Mm.findAt, hon, hI]
  rw [← hV, ← hI, show bestIs (rowOf (A.l 0).has) (rowOf (A.l 1).has) = A.bestM from rfl] at C
  rw [hF] at s4
  rw [hE, hF, hA]
  clear h hok hon hE hF hA hV hI
  generalize iv .u64 (rowOf (A.l 0).has) = X at *
  generalize iv .u64 (rowOf (A.l 1).has) = Y at *
  cases hp : A.bestM
  · rw [hp] at C s4
    simp only [Bool.false_eq_true, if_false] at s4 ⊢
    clear hp
    go_enter Tryz.func45, Tryz.ntmps45
    go_wp2_with fail
    rw [zero4]
    obtain ⟨g, hg⟩ : ∃ g, g = w.heap.size := ⟨_, rfl⟩
    rw [← hg] at O0 ⊢
    clear hg
    generalize w.alloc (.cells (iv .i64 zs4) 49) = v0 at *
    refine ((unhide O0).st.load 0 0 rfl (by have := unhide HN; omega) (unhide HO) (unhide HM)).mono ?_
    rintro e w1 ⟨rfl, h1, h2⟩
    rw [unhide L0]
    have O1 := hide (((unhide O0).call h1 h2).alloc T (.cells X 83))
    clear h1 h2 O0
    go_wp2_with fail
    refine ((unhide O1).st.load 1 1 rfl (by have := unhide HN; omega) (unhide HO) (unhide HM)).mono ?_
    rintro e w2 ⟨rfl, h1, h2⟩
    rw [unhide L1]
    have O2 := hide (((unhide O1).call h1 h2).alloc T (.cells Y 83))
    clear h1 h2 O1
    have KX := hide ((unhide O2).at w1.heap.size (.cells X 83) (by simp))
    have KY := hide ((unhide O2).at w2.heap.size (.cells Y 83) (by simp))
    go_wp2_with (first | (refine wpList_load_row rfl 83 (.tmp 5) rfl w1.heap.size rfl _ _ _ _ (unhide KX) Tryz.underlying83 rfl s8 ?_) | (refine wpList_load_row rfl 83 (.tmp 6) rfl w2.heap.size rfl _ _ _ _ (unhide KY) Tryz.underlying83 rfl s9 ?_))
    refine (unhide C _).mono ?_
    rintro e w3 ⟨rfl, hb⟩
    have O3 := hide ((unhide O2).below T hb)
    have K1 := hide ((unhide O3).at g (.cells (iv .i64 zs4) 49) (by simp))
    clear hb O2 KX KY
    have O4 := hide ((unhide O3).row T g (iv .i64 zs4) 49 (0, 0) (by simp) (iv .i64 V))
    have K2 := hide ((unhide O4).at g (.cells (iv .i64 V) 49) (by simp))
    have O5 := hide ((unhide O4).row T g (iv .i64 V) 49 (0, 0) (by simp) (iv .i64 zs4))
    go_wp2_with (first | (refine wpList_store_row rfl 49 _ (.tmp 30) rfl g (iv .i64 V) rfl rfl _ _ (unhide K1) s5 l4 (iv_one _ _) ?_) | (refine wpList_build0 rfl 49 rfl _ build4 ?_) | (refine wpList_store_row rfl 49 _ (.tmp 35) rfl g (iv .i64 zs4) rfl rfl _ _ (unhide K2) s4 l4.symm (iv_one _ _) ?_))
    refine bodyPost_ret (v := .tuple #[.agg (iv .i64 zs4), .int .i64 0, .int .i64 20]) (results_three Tryz.results45 _ _ g 49 (iv .i64 zs4) (0, 0) _ _ _ rfl rfl rfl (setRow_heap _ _ _ _ _ _ (unhide K2)) Tryz.underlying49 rfl s4) rfl ?_
    exact (unhide O5).done T _
  · rw [hp] at C s4
    simp only [if_true] at s4 ⊢
    clear hp
    go_enter Tryz.func45, Tryz.ntmps45
    go_wp2_with fail
    rw [zero4]
    obtain ⟨g, hg⟩ : ∃ g, g = w.heap.size := ⟨_, rfl⟩
    rw [← hg] at O0 ⊢
    clear hg
    generalize w.alloc (.cells (iv .i64 zs4) 49) = v0 at *
    refine ((unhide O0).st.load 0 0 rfl (by have := unhide HN; omega) (unhide HO) (unhide HM)).mono ?_
    rintro e w1 ⟨rfl, h1, h2⟩
    rw [unhide L0]
    have O1 := hide (((unhide O0).call h1 h2).alloc T (.cells X 83))
    clear h1 h2 O0
    go_wp2_with fail
    refine ((unhide O1).st.load 1 1 rfl (by have := unhide HN; omega) (unhide HO) (unhide HM)).mono ?_
    rintro e w2 ⟨rfl, h1, h2⟩
    rw [unhide L1]
    have O2 := hide (((unhide O1).call h1 h2).alloc T (.cells Y 83))
    clear h1 h2 O1
    have KX := hide ((unhide O2).at w1.heap.size (.cells X 83) (by simp))
    have KY := hide ((unhide O2).at w2.heap.size (.cells Y 83) (by simp))
    go_wp2_with (first | (refine wpList_load_row rfl 83 (.tmp 5) rfl w1.heap.size rfl _ _ _ _ (unhide KX) Tryz.underlying83 rfl s8 ?_) | (refine wpList_load_row rfl 83 (.tmp 6) rfl w2.heap.size rfl _ _ _ _ (unhide KY) Tryz.underlying83 rfl s9 ?_))
    refine (unhide C _).mono ?_
    rintro e w3 ⟨rfl, hb⟩
    have O3 := hide ((unhide O2).below T hb)
    have K1 := hide ((unhide O3).at g (.cells (iv .i64 zs4) 49) (by simp))
    clear hb O2 KX KY
    have O4 := hide ((unhide O3).row T g (iv .i64 zs4) 49 (0, 0) (by simp) (iv .i64 V))
    have K2 := hide ((unhide O4).at g (.cells (iv .i64 V) 49) (by simp))
    have O5 := hide ((unhide O4).row T g (iv .i64 V) 49 (0, 0) (by simp) (iv .i64 V))
    go_wp2_with (first | (refine wpList_store_row rfl 49 _ (.tmp 30) rfl g (iv .i64 V) rfl rfl _ _ (unhide K1) s5 l4 (iv_one _ _) ?_) | (refine wpList_load_row rfl 49 (.tmp 2) rfl g rfl _ _ _ _ (unhide K2) Tryz.underlying49 rfl s5 ?_) | (refine wpList_store_row rfl 49 _ (.tmp 36) rfl g (iv .i64 V) rfl rfl _ _ (unhide K2) s4 rfl (iv_one _ _) ?_))
    refine bodyPost_ret (v := .tuple #[.agg (iv .i64 V), .int .i64 I, .int .i64 0]) (results_three Tryz.results45 _ _ g 49 (iv .i64 V) (0, 0) _ _ _ rfl rfl rfl (setRow_heap _ _ _ _ _ _ (unhide K2)) Tryz.underlying49 rfl s4) rfl ?_
    exact (unhide O5).done T _
theorem Has.find {W w : World} {G : Nat → Prop} {b : Nat} {A : Mm} (h : Has W w G b A) (hok : A.ok 1000) :
    Calls Tryz.prog 45 #[.pointer (some ⟨b, 0, none⟩)] w (After W w G b A (.tuple #[.agg (iv .i64 A.findV), .int .i64 A.findAt, .int .i64 A.findE])) := by
  cases hon : A.on with
  | true => exact find_on h hok hon
  | false =>
    have h1 := find_off h hok hon
    rw [show A.findV = zs4 by simp [Mm.findV, hon], show A.findAt = 0 by simp [Mm.findAt, hon], show A.findE = 4 by simp [Mm.findE, hon]]
    exact h1

end Go.Proofs.YtiafhcgaikapcaaGreat


/-
  super's Write, on a memory beside blocks of the call's own: for whatever core, slot and superblock.
-/
namespace Go.Proofs.YtiafhcgaikapcaaGreat
open Go.ChangeShapes Go.WideShapes Go.ChangeAt Go.RowKit Go.Joins
set_option maxRecDepth 10000
set_option linter.unusedVariables false
set_option linter.unusedSimpArgs false

theorem write_bad {W w : World} {G : Nat → Prop} {b : Nat} {A : Mm} (h : Has W w G b A) (core slot : Int) (s : List Int) (hs : s.length = 4) (hk : okW slot s = false) :
    Calls Tryz.prog 110 #[.pointer (some ⟨b, 0, none⟩), .int .i64 core, .int .i64 slot, .agg (iv .i64 s)] w (After W w G b A (.int .i64 1)) := by
  have n8 := iv_new .u64 (lineV s) 8 (lineV_len _) 83
  have z8 : (iv .u64 (lineV s)).size = 8 := by rw [iv_size, lineV_len]
  have C1 := hide (line_any s hs)
  have s4 : (Tryz.prog.info? 49).map (·.size) = some (iv .i64 s).size := by rw [iv_size, hs]; exact size4
  have s8 : (Tryz.prog.info? 83).map (·.size) = some (iv .u64 (lineV s)).size := by rw [iv_size, lineV_len]; exact size8
  have O0 := hide ((Held.start (Has.stay W b A) h).alloc (Has.stay W b A) (.cells (iv .i64 s) 49))
  have K0 := hide (heap_new w (.cells (iv .i64 s) 49))
  by_cases h0 : slot = 0
  · subst h0
    have hm : mayS s = false := by simpa [okW] using hk
    have eE : lineE s = 1 := by simp [lineE, hm]
    rw [eE] at C1
    clear hk hm eE
    generalize iv .u64 (lineV s) = LV at *
    clear h hs
    go_enter Tryz.func110, Tryz.ntmps110
    go_wp2_with (refine wpList_load_row rfl 49 _ rfl w.heap.size rfl _ _ _ _ (unhide K0) Tryz.underlying49 rfl s4 ?_)
    refine (unhide C1 _).mono ?_
    rintro e w1 ⟨rfl, hb⟩
    have O1 := hide (((unhide O0).below (Has.stay W b A) hb).alloc (Has.stay W b A) (.cells LV 83))
    clear hb O0 K0 C1
    go_wp2_with fail
    go_ret
    exact (unhide O1).done (Has.stay W b A) _
  · by_cases h1 : slot = 1
    · subst h1
      have hm : mayS s = false := by simpa [okW] using hk
      have eE : lineE s = 1 := by simp [lineE, hm]
      rw [eE] at C1
      clear hk hm eE
      generalize iv .u64 (lineV s) = LV at *
      clear h hs
      go_enter Tryz.func110, Tryz.ntmps110
      go_wp2_with (refine wpList_load_row rfl 49 _ rfl w.heap.size rfl _ _ _ _ (unhide K0) Tryz.underlying49 rfl s4 ?_)
      refine (unhide C1 _).mono ?_
      rintro e w1 ⟨rfl, hb⟩
      have O1 := hide (((unhide O0).below (Has.stay W b A) hb).alloc (Has.stay W b A) (.cells LV 83))
      clear hb O0 K0 C1
      go_wp2_with fail
      go_ret
      exact (unhide O1).done (Has.stay W b A) _
    · have b0 : ((slot : Int) == 0) = false := by simpa using h0
      have b1 : ((slot : Int) == 1) = false := by simpa using h1
      clear h0 h1 hk
      generalize iv .u64 (lineV s) = LV at *
      generalize lineE s = E at *
      clear h hs
      go_enter Tryz.func110, Tryz.ntmps110
      go_wp2_with (refine wpList_load_row rfl 49 _ rfl w.heap.size rfl _ _ _ _ (unhide K0) Tryz.underlying49 rfl s4 ?_)
      refine (unhide C1 _).mono ?_
      rintro e w1 ⟨rfl, hb⟩
      have O1 := hide (((unhide O0).below (Has.stay W b A) hb).alloc (Has.stay W b A) (.cells LV 83))
      clear hb O0 K0 C1
      go_wp2_with fail
      go_ret
      exact (unhide O1).done (Has.stay W b A) _

theorem write_good {W w : World} {G : Nat → Prop} {b : Nat} {A : Mm} (h : Has W w G b A) (hok : A.ok 900) (core slot : Int) (s : List Int) (hs : s.length = 4) (k : Nat) (ek : slot = (k : Int)) (hk2 : k < 2) (hm : mayS s = true) (P M : Mm) (E : Int) (hP : P = A.puts k (lineV s) 8)
    (HOff : Hid (P.on = false → M = P ∧ E = 4)) (HBad : Hid (P.on = true → P.flushE core slot ≠ 0 → M = P.flushZ core slot ∧ E = P.flushE core slot)) (HGood : Hid (P.on = true → P.flushE core slot = 0 → M = (P.flushZ core slot).fenceZ core ∧ E = (P.flushZ core slot).fenceE core)) :
    Calls Tryz.prog 110 #[.pointer (some ⟨b, 0, none⟩), .int .i64 core, .int .i64 slot, .agg (iv .i64 s)] w (After W w G b M (.int .i64 E)) := by
  have n8 := iv_new .u64 (lineV s) 8 (lineV_len _) 83
  have z8 : (iv .u64 (lineV s)).size = 8 := by rw [iv_size, lineV_len]
  have C1 := hide (line_any s hs)
  have s4 : (Tryz.prog.info? 49).map (·.size) = some (iv .i64 s).size := by rw [iv_size, hs]; exact size4
  have s8 : (Tryz.prog.info? 83).map (·.size) = some (iv .u64 (lineV s)).size := by rw [iv_size, lineV_len]; exact size8
  have O0 := hide ((Held.start (Has.stay W b A) h).alloc (Has.stay W b A) (.cells (iv .i64 s) 49))
  have K0 := hide (heap_new w (.cells (iv .i64 s) 49))
  have eE : lineE s = 0 := lineE_may s hm
  rw [eE] at C1
  have HN := hide hok.1
  have HP1 : Hid (P.ok 1000) := by rw [hP]; exact ok_mono (ok_puts hok k (lineV s) (getD_inU (lineV_wf s)) 8 (Nat.le_refl _)) (by omega)
  have HP2 : Hid ((P.flushZ core slot).ok 1000) := by rw [hP]; exact ok_mono (ok_flushZ (ok_puts hok k (lineV s) (getD_inU (lineV_wf s)) 8 (Nat.le_refl _)) core slot) (by omega)
  have HPut : Hid (∀ w G, Has W w G b A → Calls Tryz.prog 166 #[.pointer (some ⟨b, 0, none⟩), .int .i64 slot, .agg (iv .u64 (lineV s))] w (After W w G b P (.int .i64 P.onE))) := fun w G h => by rw [hP]; exact h.put hok slot k ek (by have := hok.1; omega) (lineV s) (lineV_len s) (lineV_wf s)
  have HFl : Hid (∀ w G, Has W w G b P → Calls Tryz.prog 125 #[.pointer (some ⟨b, 0, none⟩), .int .i64 core, .int .i64 slot] w (After W w G b (P.flushZ core slot) (.int .i64 (P.flushE core slot)))) := fun w G h => h.flushZ (unhide HP1) core slot
  clear eE hok hP
  generalize iv .u64 (lineV s) = LV at *
  generalize P.flushZ core slot = Q at *
  generalize P.flushE core slot = FE at *
  have hsl : (slot = 0 ∨ slot = 1) := by omega
  clear ek hk2
  rcases hsl with rfl | rfl
  all_goals
    clear h hs
    go_enter Tryz.func110, Tryz.ntmps110
    go_wp2_with (refine wpList_load_row rfl 49 _ rfl w.heap.size rfl _ _ _ _ (unhide K0) Tryz.underlying49 rfl s4 ?_)
    refine (unhide C1 _).mono ?_
    rintro e w1 ⟨rfl, hb⟩
    have O1 := hide (((unhide O0).below (Has.stay W b A) hb).alloc (Has.stay W b A) (.cells LV 83))
    clear hb O0 K0 C1
    have KL := hide ((unhide O1).at w1.heap.size (.cells LV 83) (by simp))
    go_wp2_with (refine wpList_load_row rfl 83 _ rfl w1.heap.size rfl _ _ _ _ (unhide KL) Tryz.underlying83 rfl s8 ?_)
    refine (unhide HPut _ _ (unhide O1).st).mono ?_
    rintro e w2 ⟨rfl, h1, h2⟩
    have O2 := hide ((unhide O1).call (St' := fun w G => Has W w G b P) h1 h2)
    clear h1 h2 O1 KL HPut
    cases hon : P.on with
    | false =>
      have e8 := hide (unhide HOff hon)
      rw [onE_off hon]
      clear hon
      go_wp2_with fail
      go_ret
      obtain ⟨rfl, rfl⟩ := unhide e8
      exact (unhide O2).done (Has.stay W b _) _
    | true =>
      have HON := hide hon
      rw [onE_on hon]
      clear hon
      go_wp2_with fail
      refine (unhide HFl _ _ (unhide O2).st).mono ?_
      rintro e w3 ⟨rfl, h1, h2⟩
      have O3 := hide ((unhide O2).call (St' := fun w G => Has W w G b Q) h1 h2)
      clear h1 h2 O2
      by_cases hf : FE = 0
      · have e8 := hide (unhide HGood (unhide HON) hf)
        rw [hf]
        clear hf
        go_wp2_with fail
        refine ((unhide O3).st.fenceZ (unhide HP2) core).mono ?_
        rintro e w4 ⟨rfl, h1, h2⟩
        have O4 := hide ((unhide O3).call (St' := fun w G => Has W w G b (Q.fenceZ core)) h1 h2)
        clear h1 h2 O3
        go_wp2_with fail
        go_ret
        obtain ⟨rfl, rfl⟩ := unhide e8
        exact (unhide O4).done (Has.stay W b _) _
      · have e8 := hide (unhide HBad (unhide HON) hf)
        have hf' : (FE == 0) = false := by simpa using hf
        clear hf
        go_wp2_with fail
        go_ret
        obtain ⟨rfl, rfl⟩ := unhide e8
        exact (unhide O3).done (Has.stay W b _) _

theorem Has.write {W w : World} {G : Nat → Prop} {b : Nat} {A : Mm} (h : Has W w G b A) (hok : A.ok 900) (core slot : Int) (s : List Int) (hs : s.length = 4) :
    Calls Tryz.prog 110 #[.pointer (some ⟨b, 0, none⟩), .int .i64 core, .int .i64 slot, .agg (iv .i64 s)] w (After W w G b (A.writeZ core slot s) (.int .i64 (A.writeE core slot s))) := by
  cases hk : okW slot s with
  | false =>
    rw [show A.writeZ core slot s = A by simp [Mm.writeZ, hk], show A.writeE core slot s = 1 by simp [Mm.writeE, hk]]
    exact write_bad h core slot s hs hk
  | true =>
    have h2 : (slot = 0 ∨ slot = 1) ∧ mayS s = true := by simpa [okW] using hk
    refine write_good h hok core slot s hs slot.toNat (by omega) (by omega) h2.2 (A.puts slot.toNat (lineV s) 8) _ _ rfl ?_ ?_ ?_
    · exact fun hon => ⟨by simp [Mm.writeZ, hk, hon], by simp [Mm.writeE, hk, hon]⟩
    · exact fun hon hf => ⟨by simp [Mm.writeZ, hk, hon, hf], by simp [Mm.writeE, hk, hon, hf]⟩
    · exact fun hon hf => ⟨by simp [Mm.writeZ, hk, hon, hf], by simp [Mm.writeE, hk, hon, hf]⟩

end Go.Proofs.YtiafhcgaikapcaaGreat
