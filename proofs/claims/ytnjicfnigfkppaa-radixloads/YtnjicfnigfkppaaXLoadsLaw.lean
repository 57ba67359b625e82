
/-
  For every row of lines, every two numbers, RadixLoads returns true and leaves its arguments as they were: the table that any line names, in any memory, is the document's, or refused; and without power it is ErrPower. No condition.
-/
import Derived.Test.YtnjicfnigfkppaaXRLoad
import Derived.Test.YtnjicfnigfkppaaXArgs
import Derived.Test.YtnjicfnigfkppaaNLines
import Derived.Deep.Cut
namespace Go.Proofs.Ytnjicfnigfkppaa.radixLoads
open Go.ChangeShapes Go.WideShapes Go.ChangeAt Go.RowKit Go.Joins Go.Deep
set_option linter.unusedVariables false
set_option linter.unusedSimpArgs false
set_option maxRecDepth 100000

def IsLinesX (W : World) (a : Option Addr) (n : Nat) (s : Nat → Nat → Int) : Prop := LinesAt W a n s ∧ ∀ i j, InU (s i j)
theorem open_linesX {H : Type} {enc : TypeId × Value → H} {W : World} {r : Reach} {b0 : Nat} {v : Value} {d : DataW H} {p : List MemPlace} (hv : Value.okWide Try.prog W r b0 47 v)
    (h : DataW.Trod enc Try.prog W 0 (fun _ => true) true 47 v d p) :
    ∃ (a : Option Addr) (n cap : Nat) (s : Nat → Nat → Int), v = .slice a n cap ∧ IsLinesX W a n s := by
  obtain ⟨a, len, cap, rfl⟩ := okWide_slice Try.underlying47 hv
  obtain ⟨fuel, hf⟩ := h
  have k8 : Try.prog.cellsOf 27 = 8 := by kernel_rfl
  rcases open_slice Try.underlying47 hf with ⟨hcs, _⟩ | ⟨x, l, c, m, n, D, Pl, hcs, hb, hl, hm, hmm, hd, hx⟩
  · simp [Value.cells] at hcs
    obtain ⟨rfl, rfl, rfl⟩ := hcs
    exact ⟨none, 0, 0, fun _ _ => 0, rfl, Or.inl rfl, fun _ _ => (⟨by decide, by decide⟩ : InU 0)⟩
  · simp [Value.cells] at hcs
    obtain ⟨rfl, rfl, rfl⟩ := hcs
    rw [k8] at hx
    have hmc : m = cap := by rw [hmm]; rfl
    subst hmc
    simp only [Prod.mk.injEq] at hd
    obtain ⟨hd1, _⟩ := hd
    obtain ⟨s, hs⟩ := choose_lt (α := Nat → Int) (n := len) (p := fun i f => (∀ j, j < 8 → W.cell? (x.add (i * 8 + j)) = some (.int .u64 (f j))) ∧ ∀ j, InU (f j)) (fun i hi => by
      obtain ⟨cs', h1, h2⟩ := hx i (by omega)
      obtain ⟨_, hlen, hcell⟩ := World.cells?_some h1
      obtain ⟨f, rfl, hfu⟩ := fit8 (flat_of_trod (P := Try.prog) 3 27 (ks := ints8) (by kernel_rfl) h2)
      refine ⟨f, fun j hj => ?_, hfu⟩
      have := hcell j hj
      rw [add_add] at this
      rw [this]; simp [hj])
    refine ⟨some x, len, m, fun i => if i < len then s i else fun _ => 0, rfl, ?_, fun i j => ?_⟩
    · by_cases h0 : len = 0
      · exact Or.inl h0
      · right
        obtain ⟨b, off, spot⟩ := x
        have hspot : spot = none := by simpa [Addr.add] using World.cell?_spot ((hs 0 (by omega)).1 0 (by omega))
        subst hspot
        refine ⟨b, off, rfl, fun i hi j u hj => ?_⟩
        simp only [hi, if_true] at hj
        have hj8 : j < 8 := by
          rcases Nat.lt_or_ge j 8 with h | h
          · exact h
          · rw [List.getElem?_eq_none (by simpa using h)] at hj; simp at hj
        have := (hs i hi).1 j hj8
        rw [Addr.add_mid] at this
        rw [show off + i * 8 + j = off + (i * 8 + j) by omega, this]
        simpa [hj8] using hj
    · by_cases hi : i < len
      · simp only [hi, if_true]; exact (hs i hi).2 j
      · simp only [hi, if_false]; exact ⟨by decide, by decide⟩


def s100 (n : Nat) (s : Nat → Nat → Int) : Nat → Nat → Int := fun i j => if i < n ∧ i < 100 then s i j else 0
theorem s100_in (n : Nat) (s : Nat → Nat → Int) (h : ∀ i j, InU (s i j)) (i j : Nat) : InU (s100 n s i j) := by
  unfold s100; split
  · exact h i j
  · exact ⟨by decide, by decide⟩
def upL (n : Nat) (s : Nat → Nat → Int) (k : Nat) : Nat → Value := fun i => if i < k * 8 then .int .u64 (s100 n s (i / 8) (i % 8)) else .int .u64 0
theorem table_guard : Try.prog.eqGuardType Try.prog.depth 54 = false := by kernel_rfl
set_option maxHeartbeats 8000000 in
theorem walk (W : World) (a : Option Addr) (n cap : Nat) (s : Nat → Nat → Int) (fr root : Int) (hL : IsLinesX W a n s) (wfr : (Lit.int .i64 fr).wf = true) (wroot : (Lit.int .i64 root).wf = true) :
    Calls Try.prog 7 #[.slice a n cap, .int .i64 fr, .int .i64 root] W fun e W' => e = .returned (.bool true) ∧ Below W.heap.size W W' := by
  obtain ⟨l1, l2⟩ := hL
  have LA := hide l1
  have LU := hide l2
  clear l1 l2
  obtain ⟨i0, hi, hz0, hz1, hz2⟩ := info_parts info_line
  go_enter Try.func7, Try.ntmps7
  go_wp2_with fail
  refine (shown9_any W).mono ?_
  rintro e w0 ⟨rfl, hb0⟩
  have HK0 : Hid (Keeps (fun _ => False) W w0) := Keeps.of_below hb0
  clear hb0
  go_upto_region 3 with (at_make; refine wpList_make_full _ rfl _ _ 47 rfl w0.heap.size 27 i0 _ 8 Try.underlying47 hi hz0 hz1 .i64 .i64 _ _ 100 rfl rfl rfl rfl (by rw [hz2]; omega) (by unfold maxLen; omega) (Nat.le_refl _) ?_; intro w2 hown hgrow)
  have hb : Blk w2 w0.heap.size (100 * 8) 27 (upL n s 0) := made_blk hown fun i _ => by
    show (lnV fun _ => 0)[i % (lnV fun _ => 0).size]! = _
    rw [lnV_size]
    have := tab_get 8 (fun _ => Value.int .u64 0) (i % 8) (Nat.mod_lt _ (by decide))
    rw [getElem!_def, show (lnV fun _ => 0)[i % 8]? = _ from this]
    unfold upL
    rw [if_neg (by omega)]
  obtain ⟨G, hG⟩ : ∃ G, G = w0.heap.size := ⟨_, rfl⟩
  have HK2 : Hid (Keeps (fun _ => False) W w2) := Keeps.grown (unhide HK0) hgrow (fun k hk => by simp at hk)
  have HWG : Hid (W.heap.size ≤ G) := by show _ ≤ _; rw [hG]; exact (unhide HK0).size
  rw [← hG] at hb ⊢
  have HB := hide hb
  clear hb hown hgrow hG hi hz0 hz1 hz2 i0 HK0
  go_wp2_with fail
  go_loopw [9] (fun c wr => ∃ k : Nat, k ≤ n ∧ k ≤ 100 ∧ c = .int .i64 k ∧ Keeps (fun _ => False) W wr ∧ Blk wr G (100 * 8) 27 (upL n s k)) (fun c _ => 100 - (intOf c).toNat)
  case atStart => exact ⟨0, by omega, by omega, rfl, unhide HK2, unhide HB⟩
  case round =>
    clear HK2 HB
    obtain ⟨k, hkn, hk100, rfl, hk, hb⟩ := hrel
    have HK := hide hk
    have HB := hide hb
    clear hk hb
    by_cases hlt : k < n ∧ k < 100
    · obtain ⟨h1, h2⟩ := hlt
      obtain ⟨x, off, rfl, hx⟩ : ∃ b off, a = some ⟨b, off, none⟩ ∧ ∀ i, i < n → W.rangeAt b (off + i * 8) ((List.range 8).map fun j => .int .u64 (s i j)) := by
        rcases unhide LA with h | h
        · omega
        · exact h
      have h1' : (k : Int) < (n : Int) := by omega
      have h2' : (k : Int) < 100 := by omega
      obtain ⟨Lc, hLc⟩ : ∃ Lc, Lc = lnV (s k) := ⟨_, rfl⟩
      have HCR : Hid (wr.rangeAt x (off + k * 8) Lc.toList) := by rw [hLc]; exact rangeAt_keeps (hx k h1) (unhide HK) id
      have s8 : (Try.prog.info? 27).map (·.size) = some Lc.toList.length := by rw [hLc, Array.length_toList, lnV_size]; exact lsize
      have s8' : (Try.prog.info? 27).map (·.size) = some Lc.size := by rw [hLc, lnV_size]; exact lsize
      have hth : Hid (wr.there G (k * 8) Lc.size) := by rw [hLc, lnV_size]; exact (unhide HB).there (k * 8) 8 (by omega)
      have ho : Hid (Lc.all (·.oneCell') = true) := by rw [hLc]; exact lnV_one _
      have HB3 : Hid (Blk (wr.setCells G (k * 8) Lc.toList) G (100 * 8) 27 (upL n s (k + 1))) := by
        rw [hLc]
        refine (Blk.sets _ _ _ _ (unhide HB)).ext fun i hi => ?_
        have hl : (lnV (s k)).toList.length = 8 := by simp [lnV, tab]
        rw [hl]
        unfold upL
        by_cases h1 : k * 8 ≤ i ∧ i < k * 8 + 8
        · rw [if_pos h1, if_pos (by omega)]
          have := tab_get 8 (fun j => Value.int .u64 (s k j)) (i - k * 8) (by omega)
          rw [List.getD_eq_getElem?_getD, show (lnV (s k)).toList[i - k * 8]? = some (.int .u64 (s k (i - k * 8))) by rw [Array.getElem?_toList]; exact this, show i / 8 = k by omega, show i % 8 = i - k * 8 by omega]
          unfold s100
          rw [if_pos (by omega)]; rfl
        · rw [if_neg h1]
          by_cases h2 : i < k * 8
          · rw [if_pos h2, if_pos (by omega)]
          · rw [if_neg h2, if_neg (by omega)]
      have HK3 : Hid (Keeps (fun _ => False) W (wr.setCells G (k * 8) Lc.toList)) := Keeps.setCells (Or.inr (unhide HWG)) _ _ _ (unhide HK)
      clear hLc hx
      go_wp2_with (first | (with_reducible refine wpList_load_mid (by with_unfolding_all rfl) 27 _ (by with_unfolding_all rfl) x (off + k * 8) (by with_unfolding_all rfl) Lc.toList _ (unhide HCR) Try.underlying27 (by with_unfolding_all rfl) s8 ?_) | (with_reducible refine wpList_store_mid (by with_unfolding_all rfl) 27 _ _ (by with_unfolding_all rfl) G (k * 8) Lc (by with_unfolding_all rfl) (by with_unfolding_all rfl) (unhide hth) s8' (unhide ho) ?_))
      go_roundw
      case rel => exact ⟨k + 1, by omega, by omega, by go_num, unhide HK3, unhide HB3⟩
      case measure => simp [intOf]; omega
    · have HB2 : Hid (Blk wr G (100 * 8) 27 (fun i => .int .u64 (s100 n s (i / 8) (i % 8)))) := (unhide HB).ext fun i hi => by
        unfold upL
        by_cases h : i < k * 8
        · rw [if_pos h]
        · rw [if_neg h]
          unfold s100
          rw [if_neg (by omega)]
      have HLn : Hid (∀ w' : World, Keeps (fun _ => False) wr w' → ∀ i, i < 100 → w'.rangeAt G (0 + i * 8) ((List.range 8).map fun j => .int .u64 (s100 n s i j))) := fun w' hk' i hi => ((unhide HB2).keeps hk' id).range _ 8 (by omega) _ (fun j hj => by
        show Value.int .u64 (s100 n s ((0 + i * 8 + j) / 8) ((0 + i * 8 + j) % 8)) = _
        rw [show (0 + i * 8 + j) / 8 = i by omega, show (0 + i * 8 + j) % 8 = j by omega])
      have HU := hide (s100_in n s (unhide LU))
      have COF : Hid (Calls Try.prog 20 #[.slice (some ⟨G, 0, none⟩) 100 100] wr (Made wr 100 (s100 n s))) := of_any wr _ 100 100 _ (by omega) (by omega) (Or.inr ⟨G, 0, rfl, unhide HLn wr (Keeps.refl _ _)⟩)
      have CROF : Hid (∀ w' : World, Keeps (fun _ => False) wr w' → Calls Try.prog 21 #[.slice (some ⟨G, 0, none⟩) 100 100] w' (RMade w' 100 (s100 n s))) := fun w' hk' => rof_any w' _ 100 100 _ (by omega) (by omega) (lines_cells (unhide HLn w' hk')) rfl
      have HOKA : Hid ((Mm.new 100 (s100 n s)).ok 1000) := ok_mono (ok_new (by omega) (by omega) (unhide HU)) (by omega)
      clear HB HB2 HLn LA LU HU
      generalize hA : Mm.new 100 (s100 n s) = A at *
      have hAn : A.n = 100 := by rw [← hA]; rfl
      have HAN := hide hAn
      have HOFF : Hid (((A.fused 0).fenceZ 0).on = false) := by rw [← hA]; rfl
      unfold Made at COF
      unfold RMade at CROF
      rw [hA] at COF
      simp only [hA] at CROF
      clear hA hAn
      by_cases hc1 : (k : Int) < (n : Int)
      · have hc2 : ¬ ((k : Int) < 100) := by omega
        clear hlt
        go_wp2_with fail
        refine (unhide COF).mono ?_
        rintro e w3 ⟨b, c, F, cs, rfl, hr, hk3, hF⟩
        have R3 := hide hr
        have HF := hide hF
        have HK3 := hide ((unhide HK).trans' hk3)
        have HKW3 := hide hk3
        clear hr hk3 hF COF
        go_wp2_with fail
        refine (unhide CROF w3 (unhide HKW3)).mono ?_
        rintro e w4 ⟨y, gs, cz, gl, F', ads, caps, rfl, hrr, hk4, hF'⟩
        have R4 := hide ((unhide R3).keeps hk4 (fun _ _ => id))
        have RR4 := hide hrr
        have HK4 := hide ((unhide HK3).trans' hk4)
        clear hrr hk4 hF' R3 HK3 HKW3 CROF
        have hok := unhide HOKA
        have CL1 := hide (xload_any (unhide R4) hok.2.1 hok.2.2.1 fr root wroot)
        have CL2 : Hid (∀ w' : World, Keeps (fun _ => False) w4 w' → Calls Try.prog 23 #[.pointer (some ⟨y, 0, none⟩), .int .i64 fr, .int .i64 root] w' (LdPost w' (ldT A fr root) (ldL A fr root) (ldE A fr root))) := fun w' hk' => rxload_any ((unhide RR4).keeps hk' (fun _ _ => id)) (unhide HOKA) fr root
        have lX := ldT_len A fr root
        have lY := ldL_len A fr root
        clear hok RR4
        generalize ldT A fr root = X at *
        generalize ldL A fr root = Y at *
        generalize ldE A fr root = E at *
        have s54X := s147_of X lX
        have s24X := s147o_of X lX
        have s7Y := s7_of Y lY
        have e54X : Try.zeroCells54.size = (iv .i64 X).size := by rw [zero147, iv_size, iv_size, zrow_len, lX]
        have e24X : Try.zeroCells24.size = (iv .i64 X).size := by rw [zero147o, iv_size, iv_size, zrow_len, lX]
        have e7Y : (#[.int .i64 0, .int .i64 0, .int .i64 0, .int .i64 0, .int .i64 0, .int .i64 0, .int .i64 0] : Array Value).size = (iv .i64 Y).size := by rw [iv_size, lY]; rfl
        have EX : Hid (∀ w, (Op.equalIn 10000 54 (.agg (iv .i64 X)) (.agg (iv .i64 X))).run Try.prog w = .ok true w) := fun w => by rw [equal_rows 54 49 Try.underlying54 _ _ lX lX]; simp
        have EY : Hid (∀ w, (Op.equalIn 10000 37 (.agg (iv .i64 Y)) (.agg (iv .i64 Y))).run Try.prog w = .ok true w) := fun w => by rw [equal_seven _ _ lY lY]; simp
        clear lX lY
        go_wp2_with fail
        refine (unhide CL1).mono ?_
        rintro e w5 ⟨rfl, hk5⟩
        have KA5 := hide (heap2 w5 (.cells Try.zeroCells54 54) (.cells #[.int .i64 0, .int .i64 0, .int .i64 0, .int .i64 0, .int .i64 0, .int .i64 0, .int .i64 0] 37))
        have KB5 := hide ((setRow_other ((w5.alloc (.cells Try.zeroCells54 54)).alloc (.cells #[.int .i64 0, .int .i64 0, .int .i64 0, .int .i64 0, .int .i64 0, .int .i64 0, .int .i64 0] 37)) w5.heap.size (w5.heap.size + 1) (iv .i64 X) (by omega)).trans (unhide KA5).2)
        have KC5 := hide ((setRow_other (((w5.alloc (.cells Try.zeroCells54 54)).alloc (.cells #[.int .i64 0, .int .i64 0, .int .i64 0, .int .i64 0, .int .i64 0, .int .i64 0, .int .i64 0] 37)).setRow w5.heap.size (iv .i64 X)) (w5.heap.size + 1) w5.heap.size (iv .i64 Y) (by omega)).trans (setRow_heap _ _ _ (iv .i64 X) _ _ (unhide KA5).1))
        have KD5 := hide (setRow_heap (((w5.alloc (.cells Try.zeroCells54 54)).alloc (.cells #[.int .i64 0, .int .i64 0, .int .i64 0, .int .i64 0, .int .i64 0, .int .i64 0, .int .i64 0] 37)).setRow w5.heap.size (iv .i64 X)) (w5.heap.size + 1) _ (iv .i64 Y) _ _ (unhide KB5))
        have hsz5 := hk5.size
        have HKK5 : Hid (Keeps (fun _ => False) w4 ((((w5.alloc (.cells Try.zeroCells54 54)).alloc (.cells #[.int .i64 0, .int .i64 0, .int .i64 0, .int .i64 0, .int .i64 0, .int .i64 0, .int .i64 0] 37)).setRow w5.heap.size (iv .i64 X)).setRow (w5.heap.size + 1) (iv .i64 Y))) := Keeps.setRow (Keeps.setRow ((hk5.alloc _).alloc _) (Or.inr (by omega)) _) (Or.inr (by omega)) _
        clear hk5
        go_upto_region 12 with (first | (with_reducible refine wpList_store_row (by with_unfolding_all rfl) 54 _ _ (by with_unfolding_all rfl) w5.heap.size (iv .i64 X) (by with_unfolding_all rfl) (by with_unfolding_all rfl) _ _ (unhide KA5).1 s54X e54X (iv_one _ _) ?_) | (with_reducible refine wpList_store_row (by with_unfolding_all rfl) 37 _ _ (by with_unfolding_all rfl) (w5.heap.size + 1) (iv .i64 Y) (by with_unfolding_all rfl) (by with_unfolding_all rfl) _ _ (unhide KB5) s7Y e7Y (iv_one _ _) ?_))
        clear KA5 KB5
        generalize (((w5.alloc (.cells Try.zeroCells54 54)).alloc (.cells #[.int .i64 0, .int .i64 0, .int .i64 0, .int .i64 0, .int .i64 0, .int .i64 0, .int .i64 0] 37)).setRow w5.heap.size (iv .i64 X)).setRow (w5.heap.size + 1) (iv .i64 Y) = W5 at *
        clear CL1
        go_wp2_with fail
        refine (unhide CL2 W5 (unhide HKK5)).mono ?_
        rintro e w6 ⟨rfl, hk6⟩
        have KA6 := hide (heap2 w6 (.cells Try.zeroCells24 24) (.cells #[.int .i64 0, .int .i64 0, .int .i64 0, .int .i64 0, .int .i64 0, .int .i64 0, .int .i64 0] 37))
        have KB6 := hide ((setRow_other ((w6.alloc (.cells Try.zeroCells24 24)).alloc (.cells #[.int .i64 0, .int .i64 0, .int .i64 0, .int .i64 0, .int .i64 0, .int .i64 0, .int .i64 0] 37)) w6.heap.size (w6.heap.size + 1) (iv .i64 X) (by omega)).trans (unhide KA6).2)
        have KC6 := hide ((setRow_other (((w6.alloc (.cells Try.zeroCells24 24)).alloc (.cells #[.int .i64 0, .int .i64 0, .int .i64 0, .int .i64 0, .int .i64 0, .int .i64 0, .int .i64 0] 37)).setRow w6.heap.size (iv .i64 X)) (w6.heap.size + 1) w6.heap.size (iv .i64 Y) (by omega)).trans (setRow_heap _ _ _ (iv .i64 X) _ _ (unhide KA6).1))
        have KD6 := hide (setRow_heap (((w6.alloc (.cells Try.zeroCells24 24)).alloc (.cells #[.int .i64 0, .int .i64 0, .int .i64 0, .int .i64 0, .int .i64 0, .int .i64 0, .int .i64 0] 37)).setRow w6.heap.size (iv .i64 X)) (w6.heap.size + 1) _ (iv .i64 Y) _ _ (unhide KB6))
        have hsz6 := hk6.size
        have HKK6 : Hid (Keeps (fun _ => False) W5 ((((w6.alloc (.cells Try.zeroCells24 24)).alloc (.cells #[.int .i64 0, .int .i64 0, .int .i64 0, .int .i64 0, .int .i64 0, .int .i64 0, .int .i64 0] 37)).setRow w6.heap.size (iv .i64 X)).setRow (w6.heap.size + 1) (iv .i64 Y))) := Keeps.setRow (Keeps.setRow ((hk6.alloc _).alloc _) (Or.inr (by omega)) _) (Or.inr (by omega)) _
        clear hk6
        go_upto_region 13 with (first | (with_reducible refine wpList_store_row (by with_unfolding_all rfl) 24 _ _ (by with_unfolding_all rfl) w6.heap.size (iv .i64 X) (by with_unfolding_all rfl) (by with_unfolding_all rfl) _ _ (unhide KA6).1 s24X e24X (iv_one _ _) ?_) | (with_reducible refine wpList_store_row (by with_unfolding_all rfl) 37 _ _ (by with_unfolding_all rfl) (w6.heap.size + 1) (iv .i64 Y) (by with_unfolding_all rfl) (by with_unfolding_all rfl) _ _ (unhide KB6) s7Y e7Y (iv_one _ _) ?_))
        clear KA6 KB6
        generalize (((w6.alloc (.cells Try.zeroCells24 24)).alloc (.cells #[.int .i64 0, .int .i64 0, .int .i64 0, .int .i64 0, .int .i64 0, .int .i64 0, .int .i64 0] 37)).setRow w6.heap.size (iv .i64 X)).setRow (w6.heap.size + 1) (iv .i64 Y) = W6 at *
        clear CL2
        have hl5 := lt_of_heap (unhide KC5)
        have hl5d := lt_of_heap (unhide KD5)
        have K14 := hide (((unhide HKK6).block _ hl5 id).trans (unhide KC5))
        have K15 := hide (((unhide HKK6).block _ hl5d id).trans (unhide KD5))
        have HK6 := hide (((unhide HK4).trans' (unhide HKK5)).trans' (unhide HKK6))
        have HH6 : Hid (Has W W6 (fun _ => False) b A) := ⟨F, c, cs, ((unhide R4).keeps (unhide HKK5) (fun _ _ => id)).keeps (unhide HKK6) (fun _ _ => id), unhide HK6, fun k hk => Nat.le_trans (unhide HK).size (unhide HF k hk), fun k hk => hk.elim⟩
        clear R4 HK4 HKK5 HKK6 HF KC5 KD5
        have hE : (E != E) = false := by simp
        go_wp2_with (first | (with_reducible refine wpList_load_row (by with_unfolding_all rfl) 54 (.tmp 14) (by with_unfolding_all rfl) w5.heap.size (by with_unfolding_all rfl) _ _ _ _ (unhide K14) Try.underlying54 (by with_unfolding_all rfl) s54X ?_) | (with_reducible refine wpList_load_row (by with_unfolding_all rfl) 24 (.tmp 17) (by with_unfolding_all rfl) w6.heap.size (by with_unfolding_all rfl) _ _ _ _ (unhide KC6) Try.underlying24 (by with_unfolding_all rfl) s24X ?_) | (with_reducible refine wpList_neqA (by with_unfolding_all rfl) 54 54 (.tmp 82) (.tmp 83) (by with_unfolding_all rfl) (iv .i64 X) (iv .i64 X) (by with_unfolding_all rfl) (by with_unfolding_all rfl) table_guard _ (unhide EX) ?_) | (with_reducible refine wpList_load_row_g (by with_unfolding_all rfl) 37 (.tmp 15) (by with_unfolding_all rfl) (w5.heap.size + 1) (by with_unfolding_all rfl) _ _ _ _ (unhide K15) Try.underlying37 (by with_unfolding_all rfl) s7Y ?_) | (with_reducible refine wpList_load_row_g (by with_unfolding_all rfl) 37 (.tmp 18) (by with_unfolding_all rfl) (w6.heap.size + 1) (by with_unfolding_all rfl) _ _ _ _ (unhide KD6) Try.underlying37 (by with_unfolding_all rfl) s7Y ?_) | (with_reducible refine wpList_neqA (by with_unfolding_all rfl) 37 37 (.tmp 86) (.tmp 87) (by with_unfolding_all rfl) (iv .i64 Y) (iv .i64 Y) (by with_unfolding_all rfl) (by with_unfolding_all rfl) seven_guard _ (unhide EY) ?_))
        refine ((unhide HH6).fuse 0).mono ?_
        rintro e w7 ⟨rfl, h7, -⟩
        have HH7 := hide h7
        clear h7 HH6 K14 K15 KC6 KD6
        go_wp2_with fail
        refine ((unhide HH7).fenceZ (ok_fused (unhide HOKA) 0 ⟨by decide, by decide⟩) 0).mono ?_
        rintro e w8 ⟨rfl, h8, -⟩
        have HO8 : Hid (((A.fused 0).fenceZ 0).ok 1001) := by
          show Mm.ok _ _
          unfold Mm.fenceZ
          rw [if_pos (show is8 0 from ⟨by decide, by decide⟩)]
          exact ok_fence (ok_fused (unhide HOKA) 0 ⟨by decide, by decide⟩) _
        generalize (A.fused 0).fenceZ 0 = D at *
        obtain ⟨F8, c8, cs8, r8, k8, -, -⟩ := h8
        have R8 := hide r8
        have HK8 := hide k8
        clear r8 k8 HH7
        have hT8 : ldT D fr root = zrow 49 ∧ ldL D fr root = zs7 ∧ ldE D fr root = 4 := by unfold ldT ldL ldE; rw [unhide HOFF]; simp
        have CL3 := hide (xload_any (unhide R8) (unhide HO8).2.1 (unhide HO8).2.2.1 fr root wroot)
        rw [hT8.1, hT8.2.1, hT8.2.2] at CL3
        have s54Z := s147_of (zrow 49) (zrow_len 49)
        have e54Z : Try.zeroCells54.size = (iv .i64 (zrow 49)).size := by rw [zero147]
        have s7zs7 := s7_of zs7 rfl
        have e7zs7 : (#[.int .i64 0, .int .i64 0, .int .i64 0, .int .i64 0, .int .i64 0, .int .i64 0, .int .i64 0] : Array Value).size = (iv .i64 zs7).size := rfl
        clear hT8 R8 HO8 HOFF
        go_wp2_with fail
        refine (unhide CL3).mono ?_
        rintro e w9 ⟨rfl, hk9⟩
        have KA9 := hide (heap2 w9 (.cells Try.zeroCells54 54) (.cells #[.int .i64 0, .int .i64 0, .int .i64 0, .int .i64 0, .int .i64 0, .int .i64 0, .int .i64 0] 37))
        have KB9 := hide ((setRow_other ((w9.alloc (.cells Try.zeroCells54 54)).alloc (.cells #[.int .i64 0, .int .i64 0, .int .i64 0, .int .i64 0, .int .i64 0, .int .i64 0, .int .i64 0] 37)) w9.heap.size (w9.heap.size + 1) (iv .i64 (zrow 49)) (by omega)).trans (unhide KA9).2)
        have KC9 := hide ((setRow_other (((w9.alloc (.cells Try.zeroCells54 54)).alloc (.cells #[.int .i64 0, .int .i64 0, .int .i64 0, .int .i64 0, .int .i64 0, .int .i64 0, .int .i64 0] 37)).setRow w9.heap.size (iv .i64 (zrow 49))) (w9.heap.size + 1) w9.heap.size (iv .i64 zs7) (by omega)).trans (setRow_heap _ _ _ (iv .i64 (zrow 49)) _ _ (unhide KA9).1))
        have KD9 := hide (setRow_heap (((w9.alloc (.cells Try.zeroCells54 54)).alloc (.cells #[.int .i64 0, .int .i64 0, .int .i64 0, .int .i64 0, .int .i64 0, .int .i64 0, .int .i64 0] 37)).setRow w9.heap.size (iv .i64 (zrow 49))) (w9.heap.size + 1) _ (iv .i64 zs7) _ _ (unhide KB9))
        have hsz9 := hk9.size
        have HKK9 : Hid (Keeps (fun _ => False) w8 ((((w9.alloc (.cells Try.zeroCells54 54)).alloc (.cells #[.int .i64 0, .int .i64 0, .int .i64 0, .int .i64 0, .int .i64 0, .int .i64 0, .int .i64 0] 37)).setRow w9.heap.size (iv .i64 (zrow 49))).setRow (w9.heap.size + 1) (iv .i64 zs7))) := Keeps.setRow (Keeps.setRow ((hk9.alloc _).alloc _) (Or.inr (by omega)) _) (Or.inr (by omega)) _
        clear hk9
        go_upto_region 18 with (first | (with_reducible refine wpList_store_row (by with_unfolding_all rfl) 54 _ _ (by with_unfolding_all rfl) w9.heap.size (iv .i64 (zrow 49)) (by with_unfolding_all rfl) (by with_unfolding_all rfl) _ _ (unhide KA9).1 s54Z e54Z (iv_one _ _) ?_) | (with_reducible refine wpList_store_row (by with_unfolding_all rfl) 37 _ _ (by with_unfolding_all rfl) (w9.heap.size + 1) (iv .i64 zs7) (by with_unfolding_all rfl) (by with_unfolding_all rfl) _ _ (unhide KB9) s7zs7 e7zs7 (iv_one _ _) ?_))
        clear KA9 KB9
        generalize (((w9.alloc (.cells Try.zeroCells54 54)).alloc (.cells #[.int .i64 0, .int .i64 0, .int .i64 0, .int .i64 0, .int .i64 0, .int .i64 0, .int .i64 0] 37)).setRow w9.heap.size (iv .i64 (zrow 49))).setRow (w9.heap.size + 1) (iv .i64 zs7) = W9 at *
        have HK9 := hide ((unhide HK8).trans' (unhide HKK9))
        clear HKK9 KC9 KD9 HK8
        go_wp2_with fail
        go_ret
        exact ⟨rfl, (unhide HK9).below (Nat.le_refl _) (fun _ h => h.elim)⟩
      · clear hlt
        go_wp2_with fail
        refine (unhide COF).mono ?_
        rintro e w3 ⟨b, c, F, cs, rfl, hr, hk3, hF⟩
        have R3 := hide hr
        have HF := hide hF
        have HK3 := hide ((unhide HK).trans' hk3)
        have HKW3 := hide hk3
        clear hr hk3 hF COF
        go_wp2_with fail
        refine (unhide CROF w3 (unhide HKW3)).mono ?_
        rintro e w4 ⟨y, gs, cz, gl, F', ads, caps, rfl, hrr, hk4, hF'⟩
        have R4 := hide ((unhide R3).keeps hk4 (fun _ _ => id))
        have RR4 := hide hrr
        have HK4 := hide ((unhide HK3).trans' hk4)
        clear hrr hk4 hF' R3 HK3 HKW3 CROF
        have hok := unhide HOKA
        have CL1 := hide (xload_any (unhide R4) hok.2.1 hok.2.2.1 fr root wroot)
        have CL2 : Hid (∀ w' : World, Keeps (fun _ => False) w4 w' → Calls Try.prog 23 #[.pointer (some ⟨y, 0, none⟩), .int .i64 fr, .int .i64 root] w' (LdPost w' (ldT A fr root) (ldL A fr root) (ldE A fr root))) := fun w' hk' => rxload_any ((unhide RR4).keeps hk' (fun _ _ => id)) (unhide HOKA) fr root
        have lX := ldT_len A fr root
        have lY := ldL_len A fr root
        clear hok RR4
        generalize ldT A fr root = X at *
        generalize ldL A fr root = Y at *
        generalize ldE A fr root = E at *
        have s54X := s147_of X lX
        have s24X := s147o_of X lX
        have s7Y := s7_of Y lY
        have e54X : Try.zeroCells54.size = (iv .i64 X).size := by rw [zero147, iv_size, iv_size, zrow_len, lX]
        have e24X : Try.zeroCells24.size = (iv .i64 X).size := by rw [zero147o, iv_size, iv_size, zrow_len, lX]
        have e7Y : (#[.int .i64 0, .int .i64 0, .int .i64 0, .int .i64 0, .int .i64 0, .int .i64 0, .int .i64 0] : Array Value).size = (iv .i64 Y).size := by rw [iv_size, lY]; rfl
        have EX : Hid (∀ w, (Op.equalIn 10000 54 (.agg (iv .i64 X)) (.agg (iv .i64 X))).run Try.prog w = .ok true w) := fun w => by rw [equal_rows 54 49 Try.underlying54 _ _ lX lX]; simp
        have EY : Hid (∀ w, (Op.equalIn 10000 37 (.agg (iv .i64 Y)) (.agg (iv .i64 Y))).run Try.prog w = .ok true w) := fun w => by rw [equal_seven _ _ lY lY]; simp
        clear lX lY
        go_wp2_with fail
        refine (unhide CL1).mono ?_
        rintro e w5 ⟨rfl, hk5⟩
        have KA5 := hide (heap2 w5 (.cells Try.zeroCells54 54) (.cells #[.int .i64 0, .int .i64 0, .int .i64 0, .int .i64 0, .int .i64 0, .int .i64 0, .int .i64 0] 37))
        have KB5 := hide ((setRow_other ((w5.alloc (.cells Try.zeroCells54 54)).alloc (.cells #[.int .i64 0, .int .i64 0, .int .i64 0, .int .i64 0, .int .i64 0, .int .i64 0, .int .i64 0] 37)) w5.heap.size (w5.heap.size + 1) (iv .i64 X) (by omega)).trans (unhide KA5).2)
        have KC5 := hide ((setRow_other (((w5.alloc (.cells Try.zeroCells54 54)).alloc (.cells #[.int .i64 0, .int .i64 0, .int .i64 0, .int .i64 0, .int .i64 0, .int .i64 0, .int .i64 0] 37)).setRow w5.heap.size (iv .i64 X)) (w5.heap.size + 1) w5.heap.size (iv .i64 Y) (by omega)).trans (setRow_heap _ _ _ (iv .i64 X) _ _ (unhide KA5).1))
        have KD5 := hide (setRow_heap (((w5.alloc (.cells Try.zeroCells54 54)).alloc (.cells #[.int .i64 0, .int .i64 0, .int .i64 0, .int .i64 0, .int .i64 0, .int .i64 0, .int .i64 0] 37)).setRow w5.heap.size (iv .i64 X)) (w5.heap.size + 1) _ (iv .i64 Y) _ _ (unhide KB5))
        have hsz5 := hk5.size
        have HKK5 : Hid (Keeps (fun _ => False) w4 ((((w5.alloc (.cells Try.zeroCells54 54)).alloc (.cells #[.int .i64 0, .int .i64 0, .int .i64 0, .int .i64 0, .int .i64 0, .int .i64 0, .int .i64 0] 37)).setRow w5.heap.size (iv .i64 X)).setRow (w5.heap.size + 1) (iv .i64 Y))) := Keeps.setRow (Keeps.setRow ((hk5.alloc _).alloc _) (Or.inr (by omega)) _) (Or.inr (by omega)) _
        clear hk5
        go_upto_region 12 with (first | (with_reducible refine wpList_store_row (by with_unfolding_all rfl) 54 _ _ (by with_unfolding_all rfl) w5.heap.size (iv .i64 X) (by with_unfolding_all rfl) (by with_unfolding_all rfl) _ _ (unhide KA5).1 s54X e54X (iv_one _ _) ?_) | (with_reducible refine wpList_store_row (by with_unfolding_all rfl) 37 _ _ (by with_unfolding_all rfl) (w5.heap.size + 1) (iv .i64 Y) (by with_unfolding_all rfl) (by with_unfolding_all rfl) _ _ (unhide KB5) s7Y e7Y (iv_one _ _) ?_))
        clear KA5 KB5
        generalize (((w5.alloc (.cells Try.zeroCells54 54)).alloc (.cells #[.int .i64 0, .int .i64 0, .int .i64 0, .int .i64 0, .int .i64 0, .int .i64 0, .int .i64 0] 37)).setRow w5.heap.size (iv .i64 X)).setRow (w5.heap.size + 1) (iv .i64 Y) = W5 at *
        clear CL1
        go_wp2_with fail
        refine (unhide CL2 W5 (unhide HKK5)).mono ?_
        rintro e w6 ⟨rfl, hk6⟩
        have KA6 := hide (heap2 w6 (.cells Try.zeroCells24 24) (.cells #[.int .i64 0, .int .i64 0, .int .i64 0, .int .i64 0, .int .i64 0, .int .i64 0, .int .i64 0] 37))
        have KB6 := hide ((setRow_other ((w6.alloc (.cells Try.zeroCells24 24)).alloc (.cells #[.int .i64 0, .int .i64 0, .int .i64 0, .int .i64 0, .int .i64 0, .int .i64 0, .int .i64 0] 37)) w6.heap.size (w6.heap.size + 1) (iv .i64 X) (by omega)).trans (unhide KA6).2)
        have KC6 := hide ((setRow_other (((w6.alloc (.cells Try.zeroCells24 24)).alloc (.cells #[.int .i64 0, .int .i64 0, .int .i64 0, .int .i64 0, .int .i64 0, .int .i64 0, .int .i64 0] 37)).setRow w6.heap.size (iv .i64 X)) (w6.heap.size + 1) w6.heap.size (iv .i64 Y) (by omega)).trans (setRow_heap _ _ _ (iv .i64 X) _ _ (unhide KA6).1))
        have KD6 := hide (setRow_heap (((w6.alloc (.cells Try.zeroCells24 24)).alloc (.cells #[.int .i64 0, .int .i64 0, .int .i64 0, .int .i64 0, .int .i64 0, .int .i64 0, .int .i64 0] 37)).setRow w6.heap.size (iv .i64 X)) (w6.heap.size + 1) _ (iv .i64 Y) _ _ (unhide KB6))
        have hsz6 := hk6.size
        have HKK6 : Hid (Keeps (fun _ => False) W5 ((((w6.alloc (.cells Try.zeroCells24 24)).alloc (.cells #[.int .i64 0, .int .i64 0, .int .i64 0, .int .i64 0, .int .i64 0, .int .i64 0, .int .i64 0] 37)).setRow w6.heap.size (iv .i64 X)).setRow (w6.heap.size + 1) (iv .i64 Y))) := Keeps.setRow (Keeps.setRow ((hk6.alloc _).alloc _) (Or.inr (by omega)) _) (Or.inr (by omega)) _
        clear hk6
        go_upto_region 13 with (first | (with_reducible refine wpList_store_row (by with_unfolding_all rfl) 24 _ _ (by with_unfolding_all rfl) w6.heap.size (iv .i64 X) (by with_unfolding_all rfl) (by with_unfolding_all rfl) _ _ (unhide KA6).1 s24X e24X (iv_one _ _) ?_) | (with_reducible refine wpList_store_row (by with_unfolding_all rfl) 37 _ _ (by with_unfolding_all rfl) (w6.heap.size + 1) (iv .i64 Y) (by with_unfolding_all rfl) (by with_unfolding_all rfl) _ _ (unhide KB6) s7Y e7Y (iv_one _ _) ?_))
        clear KA6 KB6
        generalize (((w6.alloc (.cells Try.zeroCells24 24)).alloc (.cells #[.int .i64 0, .int .i64 0, .int .i64 0, .int .i64 0, .int .i64 0, .int .i64 0, .int .i64 0] 37)).setRow w6.heap.size (iv .i64 X)).setRow (w6.heap.size + 1) (iv .i64 Y) = W6 at *
        clear CL2
        have hl5 := lt_of_heap (unhide KC5)
        have hl5d := lt_of_heap (unhide KD5)
        have K14 := hide (((unhide HKK6).block _ hl5 id).trans (unhide KC5))
        have K15 := hide (((unhide HKK6).block _ hl5d id).trans (unhide KD5))
        have HK6 := hide (((unhide HK4).trans' (unhide HKK5)).trans' (unhide HKK6))
        have HH6 : Hid (Has W W6 (fun _ => False) b A) := ⟨F, c, cs, ((unhide R4).keeps (unhide HKK5) (fun _ _ => id)).keeps (unhide HKK6) (fun _ _ => id), unhide HK6, fun k hk => Nat.le_trans (unhide HK).size (unhide HF k hk), fun k hk => hk.elim⟩
        clear R4 HK4 HKK5 HKK6 HF KC5 KD5
        have hE : (E != E) = false := by simp
        go_wp2_with (first | (with_reducible refine wpList_load_row (by with_unfolding_all rfl) 54 (.tmp 14) (by with_unfolding_all rfl) w5.heap.size (by with_unfolding_all rfl) _ _ _ _ (unhide K14) Try.underlying54 (by with_unfolding_all rfl) s54X ?_) | (with_reducible refine wpList_load_row (by with_unfolding_all rfl) 24 (.tmp 17) (by with_unfolding_all rfl) w6.heap.size (by with_unfolding_all rfl) _ _ _ _ (unhide KC6) Try.underlying24 (by with_unfolding_all rfl) s24X ?_) | (with_reducible refine wpList_neqA (by with_unfolding_all rfl) 54 54 (.tmp 82) (.tmp 83) (by with_unfolding_all rfl) (iv .i64 X) (iv .i64 X) (by with_unfolding_all rfl) (by with_unfolding_all rfl) table_guard _ (unhide EX) ?_) | (with_reducible refine wpList_load_row_g (by with_unfolding_all rfl) 37 (.tmp 15) (by with_unfolding_all rfl) (w5.heap.size + 1) (by with_unfolding_all rfl) _ _ _ _ (unhide K15) Try.underlying37 (by with_unfolding_all rfl) s7Y ?_) | (with_reducible refine wpList_load_row_g (by with_unfolding_all rfl) 37 (.tmp 18) (by with_unfolding_all rfl) (w6.heap.size + 1) (by with_unfolding_all rfl) _ _ _ _ (unhide KD6) Try.underlying37 (by with_unfolding_all rfl) s7Y ?_) | (with_reducible refine wpList_neqA (by with_unfolding_all rfl) 37 37 (.tmp 86) (.tmp 87) (by with_unfolding_all rfl) (iv .i64 Y) (iv .i64 Y) (by with_unfolding_all rfl) (by with_unfolding_all rfl) seven_guard _ (unhide EY) ?_))
        refine ((unhide HH6).fuse 0).mono ?_
        rintro e w7 ⟨rfl, h7, -⟩
        have HH7 := hide h7
        clear h7 HH6 K14 K15 KC6 KD6
        go_wp2_with fail
        refine ((unhide HH7).fenceZ (ok_fused (unhide HOKA) 0 ⟨by decide, by decide⟩) 0).mono ?_
        rintro e w8 ⟨rfl, h8, -⟩
        have HO8 : Hid (((A.fused 0).fenceZ 0).ok 1001) := by
          show Mm.ok _ _
          unfold Mm.fenceZ
          rw [if_pos (show is8 0 from ⟨by decide, by decide⟩)]
          exact ok_fence (ok_fused (unhide HOKA) 0 ⟨by decide, by decide⟩) _
        generalize (A.fused 0).fenceZ 0 = D at *
        obtain ⟨F8, c8, cs8, r8, k8, -, -⟩ := h8
        have R8 := hide r8
        have HK8 := hide k8
        clear r8 k8 HH7
        have hT8 : ldT D fr root = zrow 49 ∧ ldL D fr root = zs7 ∧ ldE D fr root = 4 := by unfold ldT ldL ldE; rw [unhide HOFF]; simp
        have CL3 := hide (xload_any (unhide R8) (unhide HO8).2.1 (unhide HO8).2.2.1 fr root wroot)
        rw [hT8.1, hT8.2.1, hT8.2.2] at CL3
        have s54Z := s147_of (zrow 49) (zrow_len 49)
        have e54Z : Try.zeroCells54.size = (iv .i64 (zrow 49)).size := by rw [zero147]
        have s7zs7 := s7_of zs7 rfl
        have e7zs7 : (#[.int .i64 0, .int .i64 0, .int .i64 0, .int .i64 0, .int .i64 0, .int .i64 0, .int .i64 0] : Array Value).size = (iv .i64 zs7).size := rfl
        clear hT8 R8 HO8 HOFF
        go_wp2_with fail
        refine (unhide CL3).mono ?_
        rintro e w9 ⟨rfl, hk9⟩
        have KA9 := hide (heap2 w9 (.cells Try.zeroCells54 54) (.cells #[.int .i64 0, .int .i64 0, .int .i64 0, .int .i64 0, .int .i64 0, .int .i64 0, .int .i64 0] 37))
        have KB9 := hide ((setRow_other ((w9.alloc (.cells Try.zeroCells54 54)).alloc (.cells #[.int .i64 0, .int .i64 0, .int .i64 0, .int .i64 0, .int .i64 0, .int .i64 0, .int .i64 0] 37)) w9.heap.size (w9.heap.size + 1) (iv .i64 (zrow 49)) (by omega)).trans (unhide KA9).2)
        have KC9 := hide ((setRow_other (((w9.alloc (.cells Try.zeroCells54 54)).alloc (.cells #[.int .i64 0, .int .i64 0, .int .i64 0, .int .i64 0, .int .i64 0, .int .i64 0, .int .i64 0] 37)).setRow w9.heap.size (iv .i64 (zrow 49))) (w9.heap.size + 1) w9.heap.size (iv .i64 zs7) (by omega)).trans (setRow_heap _ _ _ (iv .i64 (zrow 49)) _ _ (unhide KA9).1))
        have KD9 := hide (setRow_heap (((w9.alloc (.cells Try.zeroCells54 54)).alloc (.cells #[.int .i64 0, .int .i64 0, .int .i64 0, .int .i64 0, .int .i64 0, .int .i64 0, .int .i64 0] 37)).setRow w9.heap.size (iv .i64 (zrow 49))) (w9.heap.size + 1) _ (iv .i64 zs7) _ _ (unhide KB9))
        have hsz9 := hk9.size
        have HKK9 : Hid (Keeps (fun _ => False) w8 ((((w9.alloc (.cells Try.zeroCells54 54)).alloc (.cells #[.int .i64 0, .int .i64 0, .int .i64 0, .int .i64 0, .int .i64 0, .int .i64 0, .int .i64 0] 37)).setRow w9.heap.size (iv .i64 (zrow 49))).setRow (w9.heap.size + 1) (iv .i64 zs7))) := Keeps.setRow (Keeps.setRow ((hk9.alloc _).alloc _) (Or.inr (by omega)) _) (Or.inr (by omega)) _
        clear hk9
        go_upto_region 18 with (first | (with_reducible refine wpList_store_row (by with_unfolding_all rfl) 54 _ _ (by with_unfolding_all rfl) w9.heap.size (iv .i64 (zrow 49)) (by with_unfolding_all rfl) (by with_unfolding_all rfl) _ _ (unhide KA9).1 s54Z e54Z (iv_one _ _) ?_) | (with_reducible refine wpList_store_row (by with_unfolding_all rfl) 37 _ _ (by with_unfolding_all rfl) (w9.heap.size + 1) (iv .i64 zs7) (by with_unfolding_all rfl) (by with_unfolding_all rfl) _ _ (unhide KB9) s7zs7 e7zs7 (iv_one _ _) ?_))
        clear KA9 KB9
        generalize (((w9.alloc (.cells Try.zeroCells54 54)).alloc (.cells #[.int .i64 0, .int .i64 0, .int .i64 0, .int .i64 0, .int .i64 0, .int .i64 0, .int .i64 0] 37)).setRow w9.heap.size (iv .i64 (zrow 49))).setRow (w9.heap.size + 1) (iv .i64 zs7) = W9 at *
        have HK9 := hide ((unhide HK8).trans' (unhide HKK9))
        clear HKK9 KC9 KD9 HK8
        go_wp2_with fail
        go_ret
        exact ⟨rfl, (unhide HK9).below (Nat.le_refl _) (fun _ h => h.elim)⟩

set_option maxRecDepth 100000 in
theorem lifted (os : Os) (started : os.Started) (H : Type) (enc : TypeId × Value → H) :
    ReturnsInHanded {} Try.checked os 7 .any (Rows.radixLoadsSpec.pre6 enc Try.prog Try.f7 Rows.radixLoadsRow.domain false) (Rows.radixLoadsSpec.post enc Try.prog Try.f7 false true false false) := by
  refine law_frame (C := Try.checked) (ts := [47, 3, 3]) (tb := 4) (by kernel_rfl) started (by kernel_rfl) Try.func7 Try.params7 (by kernel_rfl) Try.underlying4 (by kernel_rfl) (by kernel_rfl) rfl ?_
    (ChangeSpec.witness6 (enc := enc) (C := Try.checked) false ⟨#[], #[.slice none 0 0, .int .i64 0, .int .i64 0], []⟩ 8 (by kernel_rfl) (by kernel_rfl) (by kernel_rfl) (by kernel_rfl)) ?_
  · intro ds hd
    match ds, hd with
    | [d0, d1, d2], _ => rfl
  · intro W base args ds p hval hA
    obtain ⟨v0, vs0, d0, ds0, p0, q0, hargs, rfl, rfl, h0, r0⟩ := trodAll_cons hA
    obtain ⟨v1, vs1, d1, ds1, p1, q1, rfl, rfl, rfl, h1, r1⟩ := trodAll_cons r0
    obtain ⟨v2, vs2, d2, ds2, p2, q2, rfl, rfl, rfl, h2, r2⟩ := trodAll_cons r1
    obtain ⟨rfl, rfl, rfl⟩ := trodAll_nil r2
    obtain rfl : args = #[v0, v1, v2] := by cases args; simp_all
    obtain ⟨a, n, cap, s, rfl, hL⟩ := open_linesX (hval 0 47 v0 rfl rfl) h0
    obtain ⟨fr, rfl, rfl, rfl, wfr⟩ := open_int Try.underlying3 (hval 1 3 v1 rfl rfl) h1
    obtain ⟨root, rfl, rfl, rfl, wroot⟩ := open_int Try.underlying3 (hval 2 3 v2 rfl rfl) h2
    exact walk W a n cap s fr root hL wfr wroot

theorem over : Rows.radixLoadsRow.holds Try.pinned (OpenSpec.ofChange Rows.radixLoadsSpec) :=
  OpenClaim.holds_of_wide 7 Try.f7 rfl rfl rfl rfl rfl rfl rfl ⟨rfl, rfl, rfl, rfl, rfl⟩ rfl rfl rfl rfl rfl (by kernel_rfl) Try.func7 (by kernel_rfl)
    (of_decide_eq_true (by kernel_rfl)) (by unfold Func.isWrapper; first | (rw [if_pos (by decide +kernel)]; kernel_rfl) | (rw [if_neg (by decide +kernel)]; exact ⟨rfl, rfl⟩))
    (fun os started H enc _ => lifted os started H enc)

end Go.Proofs.Ytnjicfnigfkppaa.radixLoads
namespace Go.Proofs.Ytnjicfnigfkppaa
theorem radixLoads_holds : Rows.RadixLoadsSaid := radixLoads.over
end Go.Proofs.Ytnjicfnigfkppaa
