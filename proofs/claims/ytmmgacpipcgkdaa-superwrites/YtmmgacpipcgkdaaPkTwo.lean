import Derived.Test.YtmmgacpipcgkdaaPkMem
import Derived.Test.YtmmgacpipcgkdaaNTwo

/-
  The document's Write and Find, on its memory beside the program's and blocks of the call's own.
-/
namespace Go.Proofs.Ytmmgacpipcgkdaa
open Go.ChangeShapes Go.WideShapes Go.ChangeAt Go.RowKit Go.Joins
set_option maxRecDepth 10000
set_option linter.unusedVariables false
set_option linter.unusedSimpArgs false

theorem Two.stay (W : World) (b y : Nat) (A A' : Mm) : Stay W (fun w G => Two W w G b y A A') where
  al := fun w G o h => h.alloc o
  ls := fun w G G' h hs => h.less hs
  bl := fun w w' G h hk => by
    obtain ⟨F', gs, cz, gl, ads, caps, hr, hh, hF, hG⟩ := h
    exact ⟨F', gs, cz, gl, ads, caps, hr.keeps hk fun _ _ => id, (Has.stay W b A).bl _ _ _ hh hk, hF, hG⟩
  ow := fun w w' G L h hL hW hk => h.own hL hW hk
  lt := fun w G h => h.lt
  sz := fun w G h => h.keeps

section
variable {W w : World} {G : Nat → Prop} {b y : Nat} {A A' : Mm}
theorem Two.rstore (h : Two W w G b y A A') (hok : A'.ok 1000) (z q v : Int) (k p : Nat) (ez : z = (k : Int)) (eq : q = (p : Int)) (hk : k < A'.n) (hp : p < 8) :
    Calls Try.prog 38 #[.pointer (some ⟨y, 0, none⟩), .int .i64 z, .int .i64 q, .int .u64 v] w (TwoAfter W w G b y A (A'.store k p v) (.int .i64 A'.err)) := by
  have h1 := h.storeR hok z q v
  have hz : A'.isZ z ∧ is8 q := by subst ez eq; exact ⟨⟨by omega, by omega⟩, by omega, by omega⟩
  rw [show A'.storeZ z q v = A'.store k p v by unfold Mm.storeZ; rw [if_pos hz, ez, eq]; simp, show A'.storeE z q = A'.err by unfold Mm.storeE; rw [if_pos hz]] at h1
  exact h1
theorem Two.rload_on (h : Two W w G b y A A') (hok : A'.ok 1000) (z : Int) (k : Nat) (ez : z = (k : Int)) (hk : k < A'.n) (hon : A'.on = true) :
    Calls Try.prog 42 #[.pointer (some ⟨y, 0, none⟩), .int .i64 z] w (TwoAfter W w G b y A A' (.tuple #[.agg (lnV (A'.l k).has), .int .i64 0])) := by
  have h1 := h.loadR hok z
  have hz : A'.isZ z := by subst ez; exact ⟨by omega, by omega⟩
  rw [show A'.hasZ z = (A'.l k).has by unfold Mm.hasZ; rw [if_pos ⟨hz, hon⟩, ez]; simp, show A'.loadE z = 0 by unfold Mm.loadE; rw [if_pos hz, if_pos hon]] at h1
  exact h1
theorem Two.rload_off (h : Two W w G b y A A') (hok : A'.ok 1000) (z : Int) (k : Nat) (ez : z = (k : Int)) (hk : k < A'.n) (hon : A'.on = false) :
    Calls Try.prog 42 #[.pointer (some ⟨y, 0, none⟩), .int .i64 z] w (TwoAfter W w G b y A A' (.tuple #[.agg (lnV fun _ => 0), .int .i64 4])) := by
  have h1 := h.loadR hok z
  have hz : A'.isZ z := by subst ez; exact ⟨by omega, by omega⟩
  have ho : ¬ A'.on = true := by simp [hon]
  rw [show A'.hasZ z = (fun _ => 0) by unfold Mm.hasZ; rw [if_neg (fun h => ho h.2)], show A'.loadE z = 4 by unfold Mm.loadE; rw [if_pos hz, if_neg ho]] at h1
  exact h1
theorem Two.findL (h : Two W w G b y A A') (hok : A.ok 1000) : Calls Try.prog 24 #[.pointer (some ⟨b, 0, none⟩)] w (TwoAfter W w G b y A A' (.tuple #[.agg (iv .i64 A.findV), .int .i64 A.findAt, .int .i64 A.findE])) := by
  obtain ⟨F', gs, cz, gl, ads, caps, hr, hh, hF, hG⟩ := h
  exact (hh.find hok).mono fun e w' ha => two_left hr hF hG ha
theorem Two.writeL (h : Two W w G b y A A') (hok : A.ok 900) (core slot : Int) (s : List Int) (hs : s.length = 4) : Calls Try.prog 19 #[.pointer (some ⟨b, 0, none⟩), .int .i64 core, .int .i64 slot, .agg (iv .i64 s)] w (TwoAfter W w G b y (A.writeZ core slot s) A' (.int .i64 (A.writeE core slot s))) := by
  obtain ⟨F', gs, cz, gl, ads, caps, hr, hh, hF, hG⟩ := h
  exact (hh.write hok core slot s hs).mono fun e w' ha => two_left hr hF hG ha

/-! ### Find -/
theorem rfind_off (h : Two W w G b y A A') (hok : A'.ok 1000) (hon : A'.on = false) :
    Calls Try.prog 25 #[.pointer (some ⟨y, 0, none⟩)] w (TwoAfter W w G b y A A' (.tuple #[.agg (iv .i64 zs4), .int .i64 0, .int .i64 4])) := by
  have T := Two.stay W b y A A'
  have HN := hide hok.1
  have HOK := hide hok
  have HO := hide hon
  have O0 := hide ((Held.start T h).alloc T (.cells (iv .i64 zs4) 23))
  have HK := hide (heap_new w (.cells (iv .i64 zs4) 23))
  have n8 := iv_new .u64 (rowOf fun _ => 0) 8 (rowOf_len _) 26
  have z8 : (iv .u64 (rowOf fun _ => 0)).size = 8 := by rw [iv_size, rowOf_len]
  have s4 : (Try.prog.info? 23).map (·.size) = some (iv .i64 zs4).size := size4
  clear h hok hon
  go_enter Try.func25, Try.ntmps25
  go_wp2_with fail
  rw [zero4]
  obtain ⟨g, hg⟩ : ∃ g, g = w.heap.size := ⟨_, rfl⟩
  rw [← hg] at O0 HK ⊢
  clear hg
  generalize w.alloc (.cells (iv .i64 zs4) 23) = v0 at *
  refine ((unhide O0).st.rload_off (unhide HOK) 0 0 rfl (by have := unhide HN; omega) (unhide HO)).mono ?_
  rintro e w1 ⟨rfl, h1, h2⟩
  rw [lnV_iv]
  have O1 := hide (((unhide O0).call h1 h2).alloc T (.cells (iv .u64 (rowOf fun _ => 0)) 26))
  have K1 := hide ((unhide O1).at g (.cells (iv .i64 zs4) 23) (by simp))
  clear h1 h2 O0 HK
  go_wp2_with (first | (refine wpList_build0 rfl 23 rfl _ build4 ?_) | (refine wpList_store_row rfl 23 _ _ rfl g (iv .i64 zs4) rfl rfl _ _ (unhide K1) s4 rfl (iv_one _ _) ?_))
  refine bodyPost_ret (v := .tuple #[.agg (iv .i64 zs4), .int .i64 0, .int .i64 4]) (results_three Try.results25 _ _ g 23 (iv .i64 zs4) (0, 0) _ _ _ rfl rfl rfl (setRow_heap _ _ _ _ _ _ (unhide K1)) Try.underlying23 rfl s4) rfl ?_
  exact ((unhide O1).row T g (iv .i64 zs4) 23 (0, 0) (by simp) _).done T _

theorem rfind_on (h : Two W w G b y A A') (hok : A'.ok 1000) (hon : A'.on = true) :
    Calls Try.prog 25 #[.pointer (some ⟨y, 0, none⟩)] w (TwoAfter W w G b y A A' (.tuple #[.agg (iv .i64 A'.findV), .int .i64 A'.findAt, .int .i64 A'.findE])) := by
  have T := Two.stay W b y A A'
  have HN := hide hok.1
  have HOK := hide hok
  have HO := hide hon
  have O0 := hide ((Held.start T h).alloc T (.cells (iv .i64 zs4) 23))
  have n8 := iv_new .u64 (rowOf (A'.l 0).has) 8 (rowOf_len _) 26
  have z8 : (iv .u64 (rowOf (A'.l 0).has)).size = 8 := by rw [iv_size, rowOf_len]
  have n9 := iv_new .u64 (rowOf (A'.l 1).has) 8 (rowOf_len _) 26
  have z9 : (iv .u64 (rowOf (A'.l 1).has)).size = 8 := by rw [iv_size, rowOf_len]
  have C := hide (rbest_any (rowOf (A'.l 0).has) (rowOf (A'.l 1).has) ⟨rowOf_len _, rowOf_wf _ (Ln.has_inU (hok.2.2.1 0))⟩ ⟨rowOf_len _, rowOf_wf _ (Ln.has_inU (hok.2.2.1 1))⟩)
  have s8 : (Try.prog.info? 26).map (·.size) = some (iv .u64 (rowOf (A'.l 0).has)).size := by rw [iv_size, rowOf_len]; exact size8
  have s9 : (Try.prog.info? 26).map (·.size) = some (iv .u64 (rowOf (A'.l 1).has)).size := by rw [iv_size, rowOf_len]; exact size8
  have L0 := hide (lnV_iv (A'.l 0).has)
  have L1 := hide (lnV_iv (A'.l 1).has)
  obtain ⟨V, hV⟩ : ∃ V, V = bestV (rowOf (A'.l 0).has) (rowOf (A'.l 1).has) := ⟨_, rfl⟩
  obtain ⟨I, hI⟩ : ∃ I, I = bestAt (rowOf (A'.l 0).has) (rowOf (A'.l 1).has) := ⟨_, rfl⟩
  have nV := iv_new .i64 V 4 (by rw [hV]; exact bestV_len _ _) 23
  have zV : (iv .i64 V).size = 4 := by rw [iv_size, hV, bestV_len]
  have s4 : (Try.prog.info? 23).map (·.size) = some (iv .i64 A'.findV).size := by rw [iv_size, findV_len]; exact size4
  have s5 : (Try.prog.info? 23).map (·.size) = some (iv .i64 V).size := by rw [iv_size, hV, bestV_len]; exact size4
  have l4 : (iv .i64 zs4).size = (iv .i64 V).size := by rw [iv_size, iv_size, hV, bestV_len]; rfl
  have hE : A'.findE = if A'.bestM then 0 else 20 := by simp [Mm.findE, hon]
  have hF : A'.findV = if A'.bestM then V else zs4 := by simp [Mm.findV, hon, hV]
  have hA : A'.findAt = if A'.bestM then I else 0 := by simp [Mm.findAt, hon, hI]
  rw [← hV, ← hI, show bestIs (rowOf (A'.l 0).has) (rowOf (A'.l 1).has) = A'.bestM from rfl] at C
  rw [hF] at s4
  rw [hE, hF, hA]
  clear h hok hon hE hF hA hV hI
  generalize iv .u64 (rowOf (A'.l 0).has) = X at *
  generalize iv .u64 (rowOf (A'.l 1).has) = Y at *
  cases hp : A'.bestM
  · rw [hp] at C s4
    simp only [Bool.false_eq_true, if_false] at s4 ⊢
    clear hp
    go_enter Try.func25, Try.ntmps25
    go_wp2_with fail
    rw [zero4]
    obtain ⟨g, hg⟩ : ∃ g, g = w.heap.size := ⟨_, rfl⟩
    rw [← hg] at O0 ⊢
    clear hg
    generalize w.alloc (.cells (iv .i64 zs4) 23) = v0 at *
    refine ((unhide O0).st.rload_on (unhide HOK) 0 0 rfl (by have := unhide HN; omega) (unhide HO)).mono ?_
    rintro e w1 ⟨rfl, h1, h2⟩
    rw [unhide L0]
    have O1 := hide (((unhide O0).call h1 h2).alloc T (.cells X 26))
    clear h1 h2 O0
    go_wp2_with fail
    refine ((unhide O1).st.rload_on (unhide HOK) 1 1 rfl (by have := unhide HN; omega) (unhide HO)).mono ?_
    rintro e w2 ⟨rfl, h1, h2⟩
    rw [unhide L1]
    have O2 := hide (((unhide O1).call h1 h2).alloc T (.cells Y 26))
    clear h1 h2 O1
    have KX := hide ((unhide O2).at w1.heap.size (.cells X 26) (by simp))
    have KY := hide ((unhide O2).at w2.heap.size (.cells Y 26) (by simp))
    go_wp2_with (first | (refine wpList_load_row rfl 26 (.tmp 5) rfl w1.heap.size rfl _ _ _ _ (unhide KX) Try.underlying26 rfl s8 ?_) | (refine wpList_load_row rfl 26 (.tmp 7) rfl w2.heap.size rfl _ _ _ _ (unhide KY) Try.underlying26 rfl s9 ?_))
    refine (unhide C _).mono ?_
    rintro e w3 ⟨rfl, hb⟩
    have O3 := hide (((unhide O2).below T hb).alloc T (.cells (iv .i64 V) 23))
    have K1 := hide ((unhide O3).at g (.cells (iv .i64 zs4) 23) (by simp))
    have K2 := hide ((unhide O3).at w3.heap.size (.cells (iv .i64 V) 23) (by simp))
    clear hb O2 KX KY
    have O5 := hide ((unhide O3).row T g (iv .i64 zs4) 23 (0, 0) (by simp) (iv .i64 zs4))
    go_wp2_with (first | (refine wpList_build0 rfl 23 rfl _ build4 ?_) | (refine wpList_store_row rfl 23 _ (.tmp 38) rfl g (iv .i64 zs4) rfl rfl _ _ (unhide K1) s4 rfl (iv_one _ _) ?_))
    refine bodyPost_ret (v := .tuple #[.agg (iv .i64 zs4), .int .i64 0, .int .i64 20]) (results_three Try.results25 _ _ g 23 (iv .i64 zs4) (0, 0) _ _ _ rfl rfl rfl (setRow_heap _ _ _ _ _ _ (unhide K1)) Try.underlying23 rfl s4) rfl ?_
    exact (unhide O5).done T _
  · rw [hp] at C s4
    simp only [if_true] at s4 ⊢
    clear hp
    go_enter Try.func25, Try.ntmps25
    go_wp2_with fail
    rw [zero4]
    obtain ⟨g, hg⟩ : ∃ g, g = w.heap.size := ⟨_, rfl⟩
    rw [← hg] at O0 ⊢
    clear hg
    generalize w.alloc (.cells (iv .i64 zs4) 23) = v0 at *
    refine ((unhide O0).st.rload_on (unhide HOK) 0 0 rfl (by have := unhide HN; omega) (unhide HO)).mono ?_
    rintro e w1 ⟨rfl, h1, h2⟩
    rw [unhide L0]
    have O1 := hide (((unhide O0).call h1 h2).alloc T (.cells X 26))
    clear h1 h2 O0
    go_wp2_with fail
    refine ((unhide O1).st.rload_on (unhide HOK) 1 1 rfl (by have := unhide HN; omega) (unhide HO)).mono ?_
    rintro e w2 ⟨rfl, h1, h2⟩
    rw [unhide L1]
    have O2 := hide (((unhide O1).call h1 h2).alloc T (.cells Y 26))
    clear h1 h2 O1
    have KX := hide ((unhide O2).at w1.heap.size (.cells X 26) (by simp))
    have KY := hide ((unhide O2).at w2.heap.size (.cells Y 26) (by simp))
    go_wp2_with (first | (refine wpList_load_row rfl 26 (.tmp 5) rfl w1.heap.size rfl _ _ _ _ (unhide KX) Try.underlying26 rfl s8 ?_) | (refine wpList_load_row rfl 26 (.tmp 7) rfl w2.heap.size rfl _ _ _ _ (unhide KY) Try.underlying26 rfl s9 ?_))
    refine (unhide C _).mono ?_
    rintro e w3 ⟨rfl, hb⟩
    have O3 := hide (((unhide O2).below T hb).alloc T (.cells (iv .i64 V) 23))
    have K1 := hide ((unhide O3).at g (.cells (iv .i64 zs4) 23) (by simp))
    have K2 := hide ((unhide O3).at w3.heap.size (.cells (iv .i64 V) 23) (by simp))
    clear hb O2 KX KY
    have O5 := hide ((unhide O3).row T g (iv .i64 zs4) 23 (0, 0) (by simp) (iv .i64 V))
    go_wp2_with (first | (refine wpList_load_row rfl 23 (.tmp 8) rfl w3.heap.size rfl _ _ _ _ (unhide K2) Try.underlying23 rfl s5 ?_) | (refine wpList_store_row rfl 23 _ (.tmp 39) rfl g (iv .i64 V) rfl rfl _ _ (unhide K1) s4 l4 (iv_one _ _) ?_))
    refine bodyPost_ret (v := .tuple #[.agg (iv .i64 V), .int .i64 I, .int .i64 0]) (results_three Try.results25 _ _ g 23 (iv .i64 V) (0, 0) _ _ _ rfl rfl rfl (setRow_heap _ _ _ _ _ _ (unhide K1)) Try.underlying23 rfl s4) rfl ?_
    exact (unhide O5).done T _
theorem Two.findR (h : Two W w G b y A A') (hok : A'.ok 1000) :
    Calls Try.prog 25 #[.pointer (some ⟨y, 0, none⟩)] w (TwoAfter W w G b y A A' (.tuple #[.agg (iv .i64 A'.findV), .int .i64 A'.findAt, .int .i64 A'.findE])) := by
  cases hon : A'.on with
  | true => exact rfind_on h hok hon
  | false =>
    have h1 := rfind_off h hok hon
    rw [show A'.findV = zs4 by simp [Mm.findV, hon], show A'.findAt = 0 by simp [Mm.findAt, hon], show A'.findE = 4 by simp [Mm.findE, hon]]
    exact h1
end

end Go.Proofs.Ytmmgacpipcgkdaa


/-
  The document's Write, on its memory beside the program's and blocks of the call's own: for whatever core, slot and superblock.
-/
namespace Go.Proofs.Ytmmgacpipcgkdaa
open Go.ChangeShapes Go.WideShapes Go.ChangeAt Go.RowKit Go.Joins
set_option maxRecDepth 10000
set_option linter.unusedVariables false
set_option linter.unusedSimpArgs false

theorem rwrite_bad {W w : World} {G : Nat → Prop} {b y : Nat} {B A : Mm} (h : Two W w G b y B A) (core slot : Int) (s : List Int) (hs : s.length = 4) (hk : okW slot s = false) :
    Calls Try.prog 20 #[.pointer (some ⟨y, 0, none⟩), .int .i64 core, .int .i64 slot, .agg (iv .i64 s)] w (TwoAfter W w G b y B A (.int .i64 1)) := by
  have n8 := iv_new .u64 (lineV s) 8 (lineV_len _) 26
  have z8 : (iv .u64 (lineV s)).size = 8 := by rw [iv_size, lineV_len]
  have C1 := hide (rline_any s hs)
  have s4 : (Try.prog.info? 23).map (·.size) = some (iv .i64 s).size := by rw [iv_size, hs]; exact size4
  have O0 := hide ((Held.start (Two.stay W b y B A) h).alloc (Two.stay W b y B A) (.cells (iv .i64 s) 23))
  have K0 := hide (heap_new w (.cells (iv .i64 s) 23))
  by_cases h0 : slot < 0
  · clear hk
    generalize iv .u64 (lineV s) = LV at *
    generalize lineE s = E at *
    clear h hs
    go_enter Try.func20, Try.ntmps20
    go_wp2_with (refine wpList_load_row rfl 23 _ rfl w.heap.size rfl _ _ _ _ (unhide K0) Try.underlying23 rfl s4 ?_)
    refine (unhide C1 _).mono ?_
    rintro e w1 ⟨rfl, hb⟩
    have O1 := hide (((unhide O0).below (Two.stay W b y B A) hb).alloc (Two.stay W b y B A) (.cells LV 26))
    clear hb O0 K0 C1
    go_wp2_with fail
    go_ret
    exact (unhide O1).done (Two.stay W b y B A) _
  · by_cases h1 : slot > 1
    · clear hk
      generalize iv .u64 (lineV s) = LV at *
      generalize lineE s = E at *
      clear h hs
      go_enter Try.func20, Try.ntmps20
      go_wp2_with (refine wpList_load_row rfl 23 _ rfl w.heap.size rfl _ _ _ _ (unhide K0) Try.underlying23 rfl s4 ?_)
      refine (unhide C1 _).mono ?_
      rintro e w1 ⟨rfl, hb⟩
      have O1 := hide (((unhide O0).below (Two.stay W b y B A) hb).alloc (Two.stay W b y B A) (.cells LV 26))
      clear hb O0 K0 C1
      go_wp2_with fail
      go_ret
      exact (unhide O1).done (Two.stay W b y B A) _
    · have hm : mayS s = false := by
        have : slot = 0 ∨ slot = 1 := by omega
        simpa [okW, this] using hk
      have eE : lineE s = 1 := by simp [lineE, hm]
      rw [eE] at C1
      clear hk hm eE
      generalize iv .u64 (lineV s) = LV at *
      clear h hs
      go_enter Try.func20, Try.ntmps20
      go_wp2_with (refine wpList_load_row rfl 23 _ rfl w.heap.size rfl _ _ _ _ (unhide K0) Try.underlying23 rfl s4 ?_)
      refine (unhide C1 _).mono ?_
      rintro e w1 ⟨rfl, hb⟩
      have O1 := hide (((unhide O0).below (Two.stay W b y B A) hb).alloc (Two.stay W b y B A) (.cells LV 26))
      clear hb O0 K0 C1
      go_wp2_with fail
      go_ret
      exact (unhide O1).done (Two.stay W b y B A) _

set_option maxHeartbeats 1000000 in
theorem rwrite_good {W w : World} {G : Nat → Prop} {b y : Nat} {B A : Mm} (h : Two W w G b y B A) (hok : A.ok 900) (core : Int) (s : List Int) (hs : s.length = 4) (k : Nat) (hk2 : k < 2) (hm : mayS s = true) (P M : Mm) (E : Int) (hP : P = A.puts k (lineV s) 8)
    (HOff : Hid (P.on = false → M = P ∧ E = 4)) (HBad : Hid (P.on = true → P.flushE core (k : Int) ≠ 0 → M = P.flushZ core (k : Int) ∧ E = P.flushE core (k : Int))) (HGood : Hid (P.on = true → P.flushE core (k : Int) = 0 → M = (P.flushZ core (k : Int)).fenceZ core ∧ E = (P.flushZ core (k : Int)).fenceE core)) :
    Calls Try.prog 20 #[.pointer (some ⟨y, 0, none⟩), .int .i64 core, .int .i64 (k : Int), .agg (iv .i64 s)] w (TwoAfter W w G b y B M (.int .i64 E)) := by
  have n8 := iv_new .u64 (lineV s) 8 (lineV_len _) 26
  have z8 : (iv .u64 (lineV s)).size = 8 := by rw [iv_size, lineV_len]
  have C1 := hide (rline_any s hs)
  have s4 : (Try.prog.info? 23).map (·.size) = some (iv .i64 s).size := by rw [iv_size, hs]; exact size4
  have O0 := hide ((Held.start (Two.stay W b y B A) h).alloc (Two.stay W b y B A) (.cells (iv .i64 s) 23))
  have K0 := hide (heap_new w (.cells (iv .i64 s) 23))
  have eE : lineE s = 0 := lineE_may s hm
  rw [eE] at C1
  have HK : Hid (k < A.n) := by have := hok.1; exact (show k < A.n by omega)
  have HO : Hid (∀ j, j ≤ 8 → (A.puts k (lineV s) j).ok 1000) := fun j hj => ok_mono (ok_puts hok k (lineV s) (getD_inU (lineV_wf s)) j hj) (by omega)
  have HN : Hid (∀ j, (A.puts k (lineV s) j).n = A.n) := puts_n A k (lineV s)
  have HA := hide (ok_mono hok (show 900 ≤ 1000 by decide))
  have HE0 : Hid (A.err = (A.puts k (lineV s) 0).onE) := store_err A k 7 0
  have HE : Hid (∀ j, (A.puts k (lineV s) j).err = (A.puts k (lineV s) (j + 1)).onE) := fun j => store_err _ _ _ _
  have HX : Hid (∀ j, j < 8 → (iv .u64 (lineV s))[j]? = some (.int .u64 ((lineV s).getD j 0))) := fun j hj => iv_get _ _ _ (by rw [lineV_len]; omega)
  have H8 : Hid (∀ j, j ≤ 8 → (A.puts k (lineV s) j).on = false → A.puts k (lineV s) 8 = A.puts k (lineV s) j) := fun j hj hf => by
    have := puts_off A k (lineV s) j hf (8 - j)
    rwa [show j + (8 - j) = 8 by omega] at this
  have HS : Hid (∀ j, (A.puts k (lineV s) j).store k j ((lineV s).getD j 0) = A.puts k (lineV s) (j + 1)) := fun j => rfl
  have HS0 : Hid (A.store k 7 0 = A.puts k (lineV s) 0) := rfl
  have HP1 : Hid (P.ok 1000) := by rw [hP]; exact unhide HO 8 (Nat.le_refl _)
  have HP2 : Hid ((P.flushZ core (k : Int)).ok 1000) := by rw [hP]; exact ok_mono (ok_flushZ (ok_puts hok k (lineV s) (getD_inU (lineV_wf s)) 8 (Nat.le_refl _)) core (k : Int)) (by omega)
  have HFl : Hid (∀ w G, Two W w G b y B P → Calls Try.prog 39 #[.pointer (some ⟨y, 0, none⟩), .int .i64 core, .int .i64 (k : Int)] w (TwoAfter W w G b y B (P.flushZ core (k : Int)) (.int .i64 (P.flushE core (k : Int))))) := fun w G h => h.flushR (unhide HP1) core (k : Int)
  have HPP : Hid (A.puts k (lineV s) 8 = P) := hP.symm
  obtain ⟨PM, hPM⟩ : ∃ PM, PM = A.puts k (lineV s) := ⟨_, rfl⟩
  rw [← hPM] at HO HN HE0 HE H8 HS HS0 HPP
  clear hok hPM hP eE
  generalize hlv : iv .u64 (lineV s) = LV at *
  clear hlv
  generalize P.flushZ core (k : Int) = Q at *
  generalize P.flushE core (k : Int) = FE at *
  generalize lineV s = lv at *
  have hk0 : ¬ ((k : Int) < 0) := by omega
  have hk1 : ¬ ((k : Int) > 1) := by omega
  clear hk2
  clear h hs
  go_enter Try.func20, Try.ntmps20
  go_wp2_with (refine wpList_load_row rfl 23 _ rfl w.heap.size rfl _ _ _ _ (unhide K0) Try.underlying23 rfl s4 ?_)
  refine (unhide C1 _).mono ?_
  rintro e w1 ⟨rfl, hb⟩
  have O1 := hide (((unhide O0).below (Two.stay W b y B A) hb).alloc (Two.stay W b y B A) (.cells LV 26))
  clear hb O0 K0 C1
  go_wp2_with fail
  refine ((unhide O1).st.rstore (unhide HA) k 7 0 k 7 rfl rfl (unhide HK) (by decide)).mono ?_
  rw [unhide HS0]
  rintro e w2 ⟨rfl, h1, h2⟩
  have O2 := hide ((unhide O1).call (St' := fun w G => Two W w G b y B (PM 0)) h1 h2)
  rw [unhide HE0]
  clear h1 h2 O1
  cases hon : (PM 0).on with
  | false =>
    have e8 := hide (unhide H8 0 (by omega) hon)
    have e9 := hide hon
    rw [onE_off hon]
    clear hon
    go_wp2_with fail
    go_ret
    obtain ⟨rfl, rfl⟩ := unhide HOff (by rw [← unhide HPP, unhide e8]; exact unhide e9)
    rw [← unhide HPP, unhide e8]
    exact (unhide O2).done (Two.stay W b y B _) _
  | true =>
    have HN0 := hide hon
    rw [onE_on hon]
    clear hon
    go_wp2_with fail
    go_loopw [10, 11] (fun e c wr => ∃ j : Nat, j ≤ 8 ∧ c = .int .i64 j ∧ (PM j).on = true ∧ Held W (fun w G => Two W w G b y B (PM j)) w wr G [(w1.heap.size, .cells LV 26), (w.heap.size, .cells (iv .i64 s) 23)]) (fun _ c _ => 8 - (intOf c).toNat)
    case atStart => exact ⟨0, by omega, rfl, unhide HN0, unhide O2⟩
    case round =>
      clear O2 HN0
      obtain ⟨j, hj, rfl, hon, hh⟩ := hrel
      have HH := hide hh
      have HON := hide hon
      clear hh hon
      by_cases hlt : j < 8
      · have hlt' : (j : Int) < 8 := by omega
        have cj : wr.cell? ⟨w1.heap.size, j, none⟩ = some (.int .u64 (lv.getD j 0)) := by rw [cell_of_block ((unhide HH).at w1.heap.size (.cells LV 26) (by simp))]; exact unhide HX j hlt
        generalize hx : lv.getD j 0 = x at *
        go_wp2_with fail
        refine ((unhide HH).st.rstore (unhide HO j (by omega)) k j x k j rfl rfl (by rw [unhide HN]; exact unhide HK) hlt).mono ?_
        rw [← hx, unhide HS]
        rintro e w3 ⟨rfl, h1, h2⟩
        have O3 := hide ((unhide HH).call (St' := fun w G => Two W w G b y B (PM (j + 1))) h1 h2)
        rw [unhide HE]
        clear h1 h2 HH cj
        cases hon : (PM (j + 1)).on with
        | false =>
          have e8 := hide (unhide H8 (j + 1) (by omega) hon)
          have e9 := hide hon
          rw [onE_off hon]
          clear hon
          go_wp2_with fail
          go_ret
          obtain ⟨rfl, rfl⟩ := unhide HOff (by rw [← unhide HPP, unhide e8]; exact unhide e9)
          rw [← unhide HPP, unhide e8]
          exact (unhide O3).done (Two.stay W b y B _) _
        | true =>
          have HN0 := hide hon
          rw [onE_on hon]
          clear hon
          go_wp2_with fail
          go_roundw
          case rel => exact ⟨j + 1, by omega, by go_num, unhide HN0, unhide O3⟩
          case measure => simp [intOf]; omega
      · obtain rfl : j = 8 := by omega
        rw [unhide HPP] at HH HON
        go_wp2_with fail
        refine (unhide HFl _ _ (unhide HH).st).mono ?_
        rintro e w3 ⟨rfl, h1, h2⟩
        have O3 := hide ((unhide HH).call (St' := fun w G => Two W w G b y B Q) h1 h2)
        clear h1 h2 HH
        by_cases hf : FE = 0
        · have e8 := hide (unhide HGood (unhide HON) hf)
          rw [hf]
          clear hf
          go_wp2_with fail
          refine ((unhide O3).st.fenceR (unhide HP2) core).mono ?_
          rintro e w4 ⟨rfl, h1, h2⟩
          have O4 := hide ((unhide O3).call (St' := fun w G => Two W w G b y B (Q.fenceZ core)) h1 h2)
          clear h1 h2 O3
          go_wp2_with fail
          go_ret
          obtain ⟨rfl, rfl⟩ := unhide e8
          exact (unhide O4).done (Two.stay W b y B _) _
        · have e8 := hide (unhide HBad (unhide HON) hf)
          have hf' : (FE == 0) = false := by simpa using hf
          clear hf
          go_wp2_with fail
          go_ret
          obtain ⟨rfl, rfl⟩ := unhide e8
          exact (unhide O3).done (Two.stay W b y B _) _

theorem Two.writeR {W w : World} {G : Nat → Prop} {b y : Nat} {B A : Mm} (h : Two W w G b y B A) (hok : A.ok 900) (core slot : Int) (s : List Int) (hs : s.length = 4) :
    Calls Try.prog 20 #[.pointer (some ⟨y, 0, none⟩), .int .i64 core, .int .i64 slot, .agg (iv .i64 s)] w (TwoAfter W w G b y B (A.writeZ core slot s) (.int .i64 (A.writeE core slot s))) := by
  cases hk : okW slot s with
  | false =>
    rw [show A.writeZ core slot s = A by simp [Mm.writeZ, hk], show A.writeE core slot s = 1 by simp [Mm.writeE, hk]]
    exact rwrite_bad h core slot s hs hk
  | true =>
    have h2 : (slot = 0 ∨ slot = 1) ∧ mayS s = true := by simpa [okW] using hk
    obtain ⟨k, rfl⟩ : ∃ k : Nat, slot = (k : Int) := ⟨slot.toNat, by omega⟩
    refine rwrite_good h hok core s hs k (by omega) h2.2 (A.puts k (lineV s) 8) _ _ rfl ?_ ?_ ?_
    · exact fun hon => ⟨by simp [Mm.writeZ, hk, hon], by simp [Mm.writeE, hk, hon]⟩
    · exact fun hon hf => ⟨by simp [Mm.writeZ, hk, hon, hf], by simp [Mm.writeE, hk, hon, hf]⟩
    · exact fun hon hf => ⟨by simp [Mm.writeZ, hk, hon, hf], by simp [Mm.writeE, hk, hon, hf]⟩

/-- The document's memory just made, beside the program's. -/
theorem held_made2 {W w0 w w' : World} {G : Nat → Prop} {L : List (Nat × Obj)} {b : Nat} {A : Mm} {n : Nat} {s : Nat → Nat → Int} {e : Ending} (h : Held W (fun w G => Has W w G b A) w0 w G L) (hm : RMade w n s e w') :
    ∃ y, e = .returned (.tuple #[.pointer (some ⟨y, 0, none⟩), .int .i64 0]) ∧ Held W (fun w G => Two W w G b y A (Mm.new n s)) w0 w' G L := by
  obtain ⟨y, gs, cs, gl, F, ads, caps, h1, h2, h3, h4⟩ := hm
  refine ⟨y, h1, h.call (St' := fun w G => Two W w G b y A (Mm.new n s)) (Two.made h.st h2 h3 h4) (fun k hk => ?_)⟩
  exact h3.block k ((Has.stay W b A).lt _ _ h.st k hk) id

end Go.Proofs.Ytmmgacpipcgkdaa
