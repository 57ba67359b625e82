import Derived.Test.YtjidekjeibdbgaaTwoStay
import Derived.Test.YtjidekjeibdbgaaPkRlog
import Derived.Test.YtjidekjeibdbgaaPkScan
import Derived.Test.YtjidekjeibdbgaaPkRef
import Derived.Deep.MidRow
import Derived.Deep.Cut
import Derived.Test.YtjidekjeibdbgaaNArgs
import Derived.Deep.Slices

/-
  The document's Free, on its memory beside the program's and blocks of the call's own: for whatever core and number.
-/
namespace Go.Proofs.Ytjidekjeibdbgaa
open Go.ChangeShapes Go.WideShapes Go.ChangeAt Go.RowKit Go.Joins
set_option maxRecDepth 10000
set_option linter.unusedVariables false
set_option linter.unusedSimpArgs false

theorem rplace_any (c n : Nat) (hc : c < 8) (hn : n < 4) (w : World) : Calls Try.prog 52 #[.int .i64 (c : Int), .int .i64 (n : Int)] w fun e w' => e = .returned (.int .i64 ((2 + 4 * c + n : Nat) : Int)) ∧ w' = w := by
  go_enter Try.func52, Try.ntmps52
  go_wp2_with fail
  go_ret
  refine ⟨?_, rfl⟩
  congr 2
  try omega
theorem rfree_bad {W w : World} {G : Nat → Prop} {b y : Nat} {B A : Mm} (h : Two W w G b y B A) (core : Int) (hc : ¬ is8 core) (seq : Int) :
    Calls Try.prog 25 #[.pointer (some ⟨y, 0, none⟩), .int .i64 core, .int .i64 seq] w (TwoAfter W w G b y B A (.tuple #[.int .i64 0, .int .i64 1])) := by
  have H := hide h
  clear h
  by_cases h0 : core < 0
  · go_enter Try.func25, Try.ntmps25
    go_wp2_with fail
    go_ret2
    exact ⟨rfl, unhide H, fun _ _ => rfl⟩
  · have h8 : ¬ core < 8 := fun h => hc ⟨by omega, h⟩
    go_enter Try.func25, Try.ntmps25
    go_wp2_with fail
    go_ret2
    exact ⟨rfl, unhide H, fun _ _ => rfl⟩
theorem rfree_off {W w : World} {G : Nat → Prop} {b y : Nat} {B A : Mm} (h : Two W w G b y B A) (hok : A.ok 1000) (hon : A.on = false) (c : Nat) (hc : c < 8) (seq : Int) :
    Calls Try.prog 25 #[.pointer (some ⟨y, 0, none⟩), .int .i64 (c : Int), .int .i64 seq] w (TwoAfter W w G b y B A (.tuple #[.int .i64 0, .int .i64 4])) := by
  have T := Two.stay W b y B A
  have O0 := hide (Held.start T h)
  have CP := hide (rplace_any c 0 hc (by decide))
  have n8 := iv_new .u64 (rowOf fun _ => 0) 8 (rowOf_len _) 26
  have z8 : (iv .u64 (rowOf fun _ => 0)).size = 8 := by rw [iv_size, rowOf_len]
  have CL : Hid (∀ w G, Two W w G b y B A → Calls Try.prog 51 #[.pointer (some ⟨y, 0, none⟩), .int .i64 ((2 + 4 * c + 0 : Nat) : Int)] w (TwoAfter W w G b y B A (.tuple #[.agg (iv .u64 (rowOf fun _ => 0)), .int .i64 4]))) := fun w G h => by
    rw [← lnV_iv]
    exact h.rload_off hok _ _ rfl (by have := hok.1; omega) hon
  have hcz : ¬ (c : Int) < 0 := by omega
  have hcz2 : (c : Int) < 8 := by omega
  clear h hok hon
  generalize iv .u64 (rowOf fun _ => 0) = X at *
  go_enter Try.func25, Try.ntmps25
  go_wp2_with fail
  go_loopw [8] (fun z wr => z = .int .i64 0 ∧ wr = w) (fun _ _ => 0)
  case atStart => exact ⟨rfl, rfl⟩
  case round =>
    obtain ⟨rfl, rfl⟩ := hrel
    go_wp2_with fail
    refine (unhide CP _).mono ?_
    rintro e w1 ⟨rfl, rfl⟩
    go_wp2_with fail
    refine (unhide CL _ _ (unhide O0).st).mono ?_
    rintro e w2 ⟨rfl, h1, h2⟩
    have O2 := hide (((unhide O0).call (St' := fun w G => Two W w G b y B A) h1 h2).alloc T (.cells X 26))
    clear h1 h2 O0
    go_wp2_with fail
    go_ret2
    exact (unhide O2).done T _
set_option maxHeartbeats 1000000 in
theorem rfree_on {W w : World} {G : Nat → Prop} {b y : Nat} {B A : Mm} (h : Two W w G b y B A) (hok : A.ok 1000) (hon : A.on = true) (c : Nat) (hc : c < 8) (seq : Int) :
    Calls Try.prog 25 #[.pointer (some ⟨y, 0, none⟩), .int .i64 (c : Int), .int .i64 seq] w (TwoAfter W w G b y B A (.tuple #[.int .i64 (firstV c (A.freeN c seq 4)), .int .i64 (freeNE (A.freeN c seq 4))])) := by
  have T := Two.stay W b y B A
  have O0 := hide (Held.start T h)
  have CP : Hid (∀ n : Nat, n < 4 → ∀ w : World, Calls Try.prog 52 #[.int .i64 (c : Int), .int .i64 (n : Int)] w fun e w' => e = .returned (.int .i64 ((2 + 4 * c + n : Nat) : Int)) ∧ w' = w) := fun n hn => rplace_any c n hc hn
  have CL : Hid (∀ j, j < 4 → ∀ w G, Two W w G b y B A → Calls Try.prog 51 #[.pointer (some ⟨y, 0, none⟩), .int .i64 ((2 + 4 * c + j : Nat) : Int)] w (TwoAfter W w G b y B A (.tuple #[.agg (iv .u64 (A.rowN (2 + 4 * c + j))), .int .i64 0]))) := fun j hj w G h => by
    unfold Mm.rowN
    rw [← lnV_iv]
    exact h.rload_on hok _ _ rfl (by have := hok.1; omega) hon
  have CR : Hid (∀ j, ∀ w : World, Calls Try.prog 13 #[.agg (iv .u64 (A.rowN (2 + 4 * c + j)))] w fun e w' => e = .returned (.tuple #[.agg (rv (readRV (A.rowN (2 + 4 * c + j)))), .bool (isR (A.rowN (2 + 4 * c + j)))]) ∧ Below w.heap.size w w') := fun j => rreadR_any _ (rowN_len _ _) (rowN_wf hok _)
  have HZ : Hid (∀ j, (iv .u64 (A.rowN (2 + 4 * c + j))).size = 8) := fun j => by show _ = _; rw [iv_size, rowN_len]
  have HNX : Hid (∀ j, ∀ (W : World) (C : Array Value), C.size = 8 → Sem.run Try.prog (storeCells ⟨W.heap.size, 0, none⟩ (iv .u64 (A.rowN (2 + 4 * c + j))).toList) (W.alloc (.cells C 26)) = .ok () (W.alloc (.cells (iv .u64 (A.rowN (2 + 4 * c + j))) 26))) := fun j => iv_new .u64 _ 8 (rowN_len _ _) 26
  have HB : Hid (∀ j, A.freeB c seq j = (!isR (A.rowN (2 + 4 * c + j)) || decide ((readRV (A.rowN (2 + 4 * c + j))).q ≤ seq))) := fun j => rfl
  have HF : Hid (∀ j, j < 4 → A.freeN c seq j = none → A.freeB c seq j = true → A.freeN c seq 4 = some j) := fun j hj h1 h2 => by
    have h3 : A.freeN c seq (j + 1) = some j := by rw [freeN_succ, h1, h2]; rfl
    have mono : ∀ m, A.freeN c seq (j + 1 + m) = some j := fun m => by
      induction m with
      | zero => exact h3
      | succ m ih => rw [show j + 1 + (m + 1) = (j + 1 + m) + 1 by omega, freeN_succ, ih]; rfl
    have := mono (4 - (j + 1))
    rwa [show j + 1 + (4 - (j + 1)) = 4 by omega] at this
  have HG : Hid (∀ j, A.freeN c seq j = none → A.freeB c seq j = false → A.freeN c seq (j + 1) = none) := fun j h1 h2 => by rw [freeN_succ, h1, h2]; rfl
  have H0 : Hid (A.freeN c seq 0 = none) := rfl
  obtain ⟨FN, hFN⟩ : ∃ FN, FN = A.freeN c seq := ⟨_, rfl⟩
  obtain ⟨FB, hFB⟩ : ∃ FB, FB = A.freeB c seq := ⟨_, rfl⟩
  rw [← hFN] at HF HG H0
  rw [← hFB] at HB HF HG
  rw [← hFN]
  have hcz : ¬ (c : Int) < 0 := by omega
  have hcz2 : (c : Int) < 8 := by omega
  clear h hok hon hFN hFB
  go_enter Try.func25, Try.ntmps25
  go_wp2_with fail
  go_loopw [8] (fun z wr => ∃ j : Nat, j ≤ 4 ∧ z = .int .i64 j ∧ Hid (FN j = none) ∧ Held W (fun w G => Two W w G b y B A) w wr G []) (fun z _ => 4 - (intOf z).toNat)
  case atStart => exact ⟨0, by omega, rfl, unhide H0, unhide O0⟩
  case round =>
    clear O0
    obtain ⟨j, hj, rfl, HNN, hh⟩ := hrel
    have HH := hide hh
    clear hh
    by_cases hlt : j < 4
    · have hlt' : (j : Int) < 4 := by omega
      have C2 := hide (unhide CR j)
      have C1 := hide (unhide CL j hlt)
      have C4 := hide (unhide CP j hlt)
      have nX := unhide HNX j
      have zX := unhide HZ j
      have hB := unhide HB j
      have HF2 := hide (unhide HF j hlt (unhide HNN))
      have HG2 := hide (unhide HG j (unhide HNN))
      have s8 : (Try.prog.info? 26).map (·.size) = some (iv .u64 (A.rowN (2 + 4 * c + j))).size := by rw [zX]; exact size8
      generalize iv .u64 (A.rowN (2 + 4 * c + j)) = X at *
      generalize readRV (A.rowN (2 + 4 * c + j)) = r at *
      generalize isR (A.rowN (2 + 4 * c + j)) = ok at *
      have nR := rv_new r 24
      have z4 := rv_size r
      obtain ⟨ln, hln⟩ : ∃ ln : Int, ((2 + 4 * c + j : Nat) : Int) = ln := ⟨_, rfl⟩
      rw [hln] at C1 C4
      have HLN := hide hln
      clear hln HF HG HB HZ HNX CR CL CP
      go_wp2_with fail
      refine (unhide C4 _).mono ?_
      rintro e w1 ⟨rfl, rfl⟩
      go_wp2_with fail
      refine (unhide C1 _ _ (unhide HH).st).mono ?_
      rintro e w2 ⟨rfl, h1, h2⟩
      have O2 := hide (((unhide HH).call (St' := fun w G => Two W w G b y B A) h1 h2).alloc T (.cells X 26))
      clear h1 h2 HH
      have KX := hide ((unhide O2).at w2.heap.size (.cells X 26) (by simp))
      go_wp2_with (refine wpList_load_row rfl 26 _ rfl w2.heap.size rfl _ _ _ _ (unhide KX) Try.underlying26 rfl s8 ?_)
      refine (unhide C2 _).mono ?_
      rintro e w3 ⟨rfl, hb⟩
      have O3 := hide (((unhide O2).below T hb).alloc T (.cells (rv r) 24))
      clear hb O2 KX nX
      have cR : (w3.alloc (.cells (rv r) 24)).cell? ⟨w3.heap.size, 0, none⟩ = some (.int .i64 r.q) := by rw [cell_of_block (heap_new w3 _)]; rfl
      have FOUND : Hid (FB j = true → freeNE (FN 4) = 0 ∧ firstV c (FN 4) = ln) := fun h => by rw [unhide HF2 h]; exact ⟨rfl, unhide HLN⟩
      cases ok with
      | false =>
        have HV := hide (unhide FOUND (by rw [hB]; rfl))
        clear hB HF2 HG2 FOUND
        go_wp2_with fail
        refine (unhide C4 _).mono ?_
        rintro e w4 ⟨rfl, rfl⟩
        go_wp2_with fail
        go_ret2
        rw [(unhide HV).1, (unhide HV).2]
        exact (unhide O3).done T _
      | true =>
        by_cases hq : r.q ≤ seq
        · have HV := hide (unhide FOUND (by rw [hB]; simp [hq]))
          clear hB HF2 HG2 FOUND
          go_wp2_with fail
          refine (unhide C4 _).mono ?_
          rintro e w4 ⟨rfl, rfl⟩
          go_wp2_with fail
          go_ret2
          rw [(unhide HV).1, (unhide HV).2]
          exact (unhide O3).done T _
        · have HV := hide (unhide HG2 (by rw [hB]; simp; omega))
          have O4 := hide ((unhide O3).less T (L' := []) (by simp))
          clear hB HF2 HG2 FOUND O3
          go_wp2_with fail
          go_roundw
          case rel => exact ⟨j + 1, by omega, by go_num, unhide HV, unhide O4⟩
          case measure => simp [intOf]; omega
    · obtain rfl : j = 4 := by omega
      go_wp2_with fail
      go_ret2
      rw [unhide HNN]
      exact (unhide HH).done T _
theorem Two.freeR6 {W w : World} {G : Nat → Prop} {b y : Nat} {B A : Mm} (h : Two W w G b y B A) (hok : A.ok 1000) (core seq : Int) :
    Calls Try.prog 25 #[.pointer (some ⟨y, 0, none⟩), .int .i64 core, .int .i64 seq] w (TwoAfter W w G b y B A (.tuple #[.int .i64 (A.freeV core seq), .int .i64 (A.freeE core seq)])) := by
  unfold Mm.freeV Mm.freeE
  by_cases h8 : is8 core
  · obtain ⟨c, rfl⟩ : ∃ c : Nat, core = (c : Int) := ⟨core.toNat, by have := h8.1; omega⟩
    have hc : c < 8 := by have := h8.2; omega
    rw [if_pos h8]
    cases hon : A.on with
    | true =>
      rw [if_pos ⟨h8, rfl⟩, if_pos rfl, freeNE_eq]
      exact rfree_on h hok hon c hc seq
    | false =>
      rw [if_neg (by simp), if_neg (by simp)]
      exact rfree_off h hok hon c hc seq
  · rw [if_neg (fun hh => h8 hh.1), if_neg h8]
    exact rfree_bad h core h8 seq
theorem Two.freeL6 {W w : World} {G : Nat → Prop} {b y : Nat} {A A' : Mm} (h : Two W w G b y A A') (hok : A.ok 1000) (core seq : Int) :
    Calls Try.prog 24 #[.pointer (some ⟨b, 0, none⟩), .int .i64 core, .int .i64 seq] w (TwoAfter W w G b y A A' (.tuple #[.int .i64 (A.freeV core seq), .int .i64 (A.freeE core seq)])) := by
  obtain ⟨F', gs, cz, gl, ads, caps, hr, hh, hF, hG⟩ := h
  exact (hh.freeR hok core seq).mono fun e w' ha => two_left hr hF hG ha

end Go.Proofs.Ytjidekjeibdbgaa


/-
  The document's Append, on its memory beside the program's and blocks of the call's own: for whatever core, number and record.
-/
namespace Go.Proofs.Ytjidekjeibdbgaa
open Go.ChangeShapes Go.WideShapes Go.ChangeAt Go.RowKit Go.Joins
set_option maxRecDepth 10000
set_option linter.unusedVariables false
set_option linter.unusedSimpArgs false

theorem rapp_full {W w : World} {G : Nat → Prop} {b y : Nat} {B A : Mm} (h : Two W w G b y B A) (hok : A.ok 900) (core seq : Int) (s : Rc) (hr : s.ok) (hf : A.freeE core seq ≠ 0) :
    Calls Try.prog 27 #[.pointer (some ⟨y, 0, none⟩), .int .i64 core, .int .i64 seq, .agg (rv s)] w (TwoAfter W w G b y B A (.int .i64 (A.freeE core seq))) := by
  have CF : Hid (∀ w G, Two W w G b y B A → Calls Try.prog 25 #[.pointer (some ⟨y, 0, none⟩), .int .i64 core, .int .i64 seq] w (TwoAfter W w G b y B A (.tuple #[.int .i64 (A.freeV core seq), .int .i64 (A.freeE core seq)]))) := fun w G h => h.freeR6 (ok_mono hok (by decide)) core seq
  have s4 : (Try.prog.info? 24).map (·.size) = some (rv s).size := size4R
  have O0 := hide ((Held.start (Two.stay W b y B A) h).alloc (Two.stay W b y B A) (.cells (rv s) 24))
  have n8 := iv_new .u64 (lineRV s) 8 (lineRV_len _) 26
  have z8 : (iv .u64 (lineRV s)).size = 8 := by rw [iv_size, lineRV_len]
  have C1 := hide (rlineR_any s hr)
  generalize A.freeE core seq = E at *
  generalize A.freeV core seq = V at *
  have hE : (E == 0) = false := by simpa using hf
  clear h hok hf
  go_enter Try.func27, Try.ntmps27
  go_wp2_with fail
  refine (unhide CF _ _ (unhide O0).st).mono ?_
  rintro e w1 ⟨rfl, h1, h2⟩
  have OF := hide ((unhide O0).call (St' := fun w G => Two W w G b y B A) h1 h2)
  clear h1 h2 O0 CF
  go_wp2_with fail
  go_ret
  exact (unhide OF).done (Two.stay W b y B A) _
theorem rapp_bad {W w : World} {G : Nat → Prop} {b y : Nat} {B A : Mm} (h : Two W w G b y B A) (hok : A.ok 900) (core seq : Int) (s : Rc) (hr : s.ok) (hf : A.freeE core seq = 0) (hm : mayR s = false) :
    Calls Try.prog 27 #[.pointer (some ⟨y, 0, none⟩), .int .i64 core, .int .i64 seq, .agg (rv s)] w (TwoAfter W w G b y B A (.int .i64 1)) := by
  have CF : Hid (∀ w G, Two W w G b y B A → Calls Try.prog 25 #[.pointer (some ⟨y, 0, none⟩), .int .i64 core, .int .i64 seq] w (TwoAfter W w G b y B A (.tuple #[.int .i64 (A.freeV core seq), .int .i64 (A.freeE core seq)]))) := fun w G h => h.freeR6 (ok_mono hok (by decide)) core seq
  have s4 : (Try.prog.info? 24).map (·.size) = some (rv s).size := size4R
  have O0 := hide ((Held.start (Two.stay W b y B A) h).alloc (Two.stay W b y B A) (.cells (rv s) 24))
  have n8 := iv_new .u64 (lineRV s) 8 (lineRV_len _) 26
  have z8 : (iv .u64 (lineRV s)).size = 8 := by rw [iv_size, lineRV_len]
  have C1 := hide (rlineR_any s hr)
  rw [hf] at CF
  generalize A.freeV core seq = V at *
  rw [lineRE_not s hm] at C1
  clear hok hf hm
  generalize iv .u64 (lineRV s) = LV at *
  clear h
  go_enter Try.func27, Try.ntmps27
  go_wp2_with fail
  refine (unhide CF _ _ (unhide O0).st).mono ?_
  rintro e w1 ⟨rfl, h1, h2⟩
  have OF := hide ((unhide O0).call (St' := fun w G => Two W w G b y B A) h1 h2)
  clear h1 h2 O0 CF
  have K0 := hide ((unhide OF).at w.heap.size (.cells (rv s) 24) (by simp))
  go_wp2_with (refine wpList_load_row rfl 24 _ rfl w.heap.size rfl _ _ _ _ (unhide K0) Try.underlying24 rfl s4 ?_)
  refine (unhide C1 _).mono ?_
  rintro e w5 ⟨rfl, hb⟩
  have O1 := hide (((unhide OF).below (Two.stay W b y B A) hb).alloc (Two.stay W b y B A) (.cells LV 26))
  clear hb OF K0 C1
  go_wp2_with fail
  go_ret
  exact (unhide O1).done (Two.stay W b y B A) _

set_option maxHeartbeats 2000000 in
theorem rapp_good {W w : World} {G : Nat → Prop} {b y : Nat} {B A : Mm} (h : Two W w G b y B A) (hok : A.ok 900) (core seq : Int) (s : Rc) (hr : s.ok) (hfe : A.freeE core seq = 0) (k : Nat) (hV : A.freeV core seq = (k : Int)) (hk2 : k < 64) (hm : mayR s = true) (P M : Mm) (E : Int) (hP : P = A.puts k (lineRV s) 8)
    (HOff : Hid (P.on = false → M = P ∧ E = 4)) (HBad : Hid (P.on = true → P.flushE core (k : Int) ≠ 0 → M = P.flushZ core (k : Int) ∧ E = P.flushE core (k : Int))) (HGood : Hid (P.on = true → P.flushE core (k : Int) = 0 → M = (P.flushZ core (k : Int)).fenceZ core ∧ E = (P.flushZ core (k : Int)).fenceE core)) :
    Calls Try.prog 27 #[.pointer (some ⟨y, 0, none⟩), .int .i64 core, .int .i64 seq, .agg (rv s)] w (TwoAfter W w G b y B M (.int .i64 E)) := by
  have CF : Hid (∀ w G, Two W w G b y B A → Calls Try.prog 25 #[.pointer (some ⟨y, 0, none⟩), .int .i64 core, .int .i64 seq] w (TwoAfter W w G b y B A (.tuple #[.int .i64 (A.freeV core seq), .int .i64 (A.freeE core seq)]))) := fun w G h => h.freeR6 (ok_mono hok (by decide)) core seq
  have s4 : (Try.prog.info? 24).map (·.size) = some (rv s).size := size4R
  have O0 := hide ((Held.start (Two.stay W b y B A) h).alloc (Two.stay W b y B A) (.cells (rv s) 24))
  have n8 := iv_new .u64 (lineRV s) 8 (lineRV_len _) 26
  have z8 : (iv .u64 (lineRV s)).size = 8 := by rw [iv_size, lineRV_len]
  have C1 := hide (rlineR_any s hr)
  rw [hfe, hV] at CF
  rw [lineRE_may s hm] at C1
  have HK : Hid (k < A.n) := by have := hok.1; exact (show k < A.n by omega)
  have HO : Hid (∀ j, j ≤ 8 → (A.puts k (lineRV s) j).ok 1000) := fun j hj => ok_mono (ok_puts hok k (lineRV s) (getD_inU (lineRV_wf s hr)) j hj) (by omega)
  have HN : Hid (∀ j, (A.puts k (lineRV s) j).n = A.n) := puts_n A k (lineRV s)
  have HA := hide (ok_mono hok (show 900 ≤ 1000 by decide))
  have HE0 : Hid (A.err = (A.puts k (lineRV s) 0).onE) := store_err A k 7 0
  have HE : Hid (∀ j, (A.puts k (lineRV s) j).err = (A.puts k (lineRV s) (j + 1)).onE) := fun j => store_err _ _ _ _
  have HX : Hid (∀ j, j < 8 → (iv .u64 (lineRV s))[j]? = some (.int .u64 ((lineRV s).getD j 0))) := fun j hj => iv_get _ _ _ (by rw [lineRV_len]; omega)
  have H8 : Hid (∀ j, j ≤ 8 → (A.puts k (lineRV s) j).on = false → A.puts k (lineRV s) 8 = A.puts k (lineRV s) j) := fun j hj hf => by
    have := puts_off A k (lineRV s) j hf (8 - j)
    rwa [show j + (8 - j) = 8 by omega] at this
  have HS : Hid (∀ j, (A.puts k (lineRV s) j).store k j ((lineRV s).getD j 0) = A.puts k (lineRV s) (j + 1)) := fun j => rfl
  have HS0 : Hid (A.store k 7 0 = A.puts k (lineRV s) 0) := rfl
  have HP1 : Hid (P.ok 1000) := by rw [hP]; exact unhide HO 8 (Nat.le_refl _)
  have HP2 : Hid ((P.flushZ core (k : Int)).ok 1000) := by rw [hP]; exact ok_mono (ok_flushZ (ok_puts hok k (lineRV s) (getD_inU (lineRV_wf s hr)) 8 (Nat.le_refl _)) core (k : Int)) (by omega)
  have HFl : Hid (∀ w G, Two W w G b y B P → Calls Try.prog 56 #[.pointer (some ⟨y, 0, none⟩), .int .i64 core, .int .i64 (k : Int)] w (TwoAfter W w G b y B (P.flushZ core (k : Int)) (.int .i64 (P.flushE core (k : Int))))) := fun w G h => h.flushR (unhide HP1) core (k : Int)
  have HPP : Hid (A.puts k (lineRV s) 8 = P) := hP.symm
  obtain ⟨PM, hPM⟩ : ∃ PM, PM = A.puts k (lineRV s) := ⟨_, rfl⟩
  rw [← hPM] at HO HN HE0 HE H8 HS HS0 HPP
  clear hok hPM hP hfe hV hm
  generalize hlv : iv .u64 (lineRV s) = LV at *
  clear hlv
  generalize P.flushZ core (k : Int) = Q at *
  generalize P.flushE core (k : Int) = FE at *
  generalize lineRV s = lv at *
  clear hk2
  clear h
  go_enter Try.func27, Try.ntmps27
  go_wp2_with fail
  refine (unhide CF _ _ (unhide O0).st).mono ?_
  rintro e w1 ⟨rfl, h1, h2⟩
  have OF := hide ((unhide O0).call (St' := fun w G => Two W w G b y B A) h1 h2)
  clear h1 h2 O0 CF
  have K0 := hide ((unhide OF).at w.heap.size (.cells (rv s) 24) (by simp))
  go_wp2_with (refine wpList_load_row rfl 24 _ rfl w.heap.size rfl _ _ _ _ (unhide K0) Try.underlying24 rfl s4 ?_)
  refine (unhide C1 _).mono ?_
  rintro e w5 ⟨rfl, hb⟩
  have O1 := hide (((unhide OF).below (Two.stay W b y B A) hb).alloc (Two.stay W b y B A) (.cells LV 26))
  clear hb OF K0 C1
  go_wp2_with fail
  refine ((unhide O1).st.rstore (unhide HA) k 7 0 k 7 rfl rfl (unhide HK) (by decide)).mono ?_
  rw [unhide HS0]
  rintro e w2 ⟨rfl, h1, h2⟩
  have O2 := hide ((unhide O1).call (St' := fun w G => Two W w G b y B (PM 0)) h1 h2)
  rw [unhide HE0]
  clear h1 h2 O1
  cases hon : (PM 0).on with
  | false =>
    have e8 := hide (unhide H8 0 (by omega) hon)
    have e9 := hide hon
    rw [onE_off hon]
    clear hon
    go_wp2_with fail
    go_ret
    obtain ⟨rfl, rfl⟩ := unhide HOff (by rw [← unhide HPP, unhide e8]; exact unhide e9)
    rw [← unhide HPP, unhide e8]
    exact (unhide O2).done (Two.stay W b y B _) _
  | true =>
    have HN0 := hide hon
    rw [onE_on hon]
    clear hon
    go_wp2_with fail
    go_loopw [10, 12] (fun e c wr => ∃ j : Nat, j ≤ 8 ∧ c = .int .i64 j ∧ (PM j).on = true ∧ Held W (fun w G => Two W w G b y B (PM j)) w wr G [(w5.heap.size, .cells LV 26), (w.heap.size, .cells (rv s) 24)]) (fun _ c _ => 8 - (intOf c).toNat)
    case atStart => exact ⟨0, by omega, rfl, unhide HN0, unhide O2⟩
    case round =>
      clear O2 HN0
      obtain ⟨j, hj, rfl, hon, hh⟩ := hrel
      have HH := hide hh
      have HON := hide hon
      clear hh hon
      by_cases hlt : j < 8
      · have hlt' : (j : Int) < 8 := by omega
        have cj : wr.cell? ⟨w5.heap.size, j, none⟩ = some (.int .u64 (lv.getD j 0)) := by rw [cell_of_block ((unhide HH).at w5.heap.size (.cells LV 26) (by simp))]; exact unhide HX j hlt
        generalize hx : lv.getD j 0 = x at *
        go_wp2_with fail
        refine ((unhide HH).st.rstore (unhide HO j (by omega)) k j x k j rfl rfl (by rw [unhide HN]; exact unhide HK) hlt).mono ?_
        rw [← hx, unhide HS]
        rintro e w3 ⟨rfl, h1, h2⟩
        have O3 := hide ((unhide HH).call (St' := fun w G => Two W w G b y B (PM (j + 1))) h1 h2)
        rw [unhide HE]
        clear h1 h2 HH cj
        cases hon : (PM (j + 1)).on with
        | false =>
          have e8 := hide (unhide H8 (j + 1) (by omega) hon)
          have e9 := hide hon
          rw [onE_off hon]
          clear hon
          go_wp2_with fail
          go_ret
          obtain ⟨rfl, rfl⟩ := unhide HOff (by rw [← unhide HPP, unhide e8]; exact unhide e9)
          rw [← unhide HPP, unhide e8]
          exact (unhide O3).done (Two.stay W b y B _) _
        | true =>
          have HN0 := hide hon
          rw [onE_on hon]
          clear hon
          go_wp2_with fail
          go_roundw
          case rel => exact ⟨j + 1, by omega, by go_num, unhide HN0, unhide O3⟩
          case measure => simp [intOf]; omega
      · obtain rfl : j = 8 := by omega
        rw [unhide HPP] at HH HON
        go_wp2_with fail
        refine (unhide HFl _ _ (unhide HH).st).mono ?_
        rintro e w3 ⟨rfl, h1, h2⟩
        have O3 := hide ((unhide HH).call (St' := fun w G => Two W w G b y B Q) h1 h2)
        clear h1 h2 HH
        by_cases hf : FE = 0
        · have e8 := hide (unhide HGood (unhide HON) hf)
          rw [hf]
          clear hf
          go_wp2_with fail
          refine ((unhide O3).st.fenceR (unhide HP2) core).mono ?_
          rintro e w4 ⟨rfl, h1, h2⟩
          have O4 := hide ((unhide O3).call (St' := fun w G => Two W w G b y B (Q.fenceZ core)) h1 h2)
          clear h1 h2 O3
          go_wp2_with fail
          go_ret
          obtain ⟨rfl, rfl⟩ := unhide e8
          exact (unhide O4).done (Two.stay W b y B _) _
        · have e8 := hide (unhide HBad (unhide HON) hf)
          have hf' : (FE == 0) = false := by simpa using hf
          clear hf
          go_wp2_with fail
          go_ret
          obtain ⟨rfl, rfl⟩ := unhide e8
          exact (unhide O3).done (Two.stay W b y B _) _

theorem Two.appR6 {W w : World} {G : Nat → Prop} {b y : Nat} {B A : Mm} (h : Two W w G b y B A) (hok : A.ok 900) (core seq : Int) (r : Rc) (hr : r.ok) :
    Calls Try.prog 27 #[.pointer (some ⟨y, 0, none⟩), .int .i64 core, .int .i64 seq, .agg (rv r)] w (TwoAfter W w G b y B (A.appZ core seq r) (.int .i64 (A.appE core seq r))) := by
  by_cases hf : A.freeE core seq = 0
  · cases hm : mayR r with
    | false =>
      rw [show A.appZ core seq r = A by simp [Mm.appZ, hf, hm], show A.appE core seq r = 1 by simp [Mm.appE, hf, hm]]
      exact rapp_bad h hok core seq r hr hf hm
    | true =>
      obtain ⟨h8, hon, n, hn, -, hv⟩ := freeV_some hf
      have hc : core.toNat < 8 := by have := h8.2; have := h8.1; omega
      have e1 : (A.freeV core seq).toNat = 2 + 4 * core.toNat + n := by rw [hv]; omega
      refine rapp_good h hok core seq r hr hf (2 + 4 * core.toNat + n) hv (by omega) hm (A.puts (2 + 4 * core.toNat + n) (lineRV r) 8) _ _ rfl ?_ ?_ ?_
      · exact fun hon => ⟨by simp [Mm.appZ, hf, hm, Mm.wrZ, e1, hon], by simp [Mm.appE, hf, hm, Mm.wrE, e1, hon]⟩
      · exact fun hon hg => ⟨by simp only [Mm.appZ, hf, hm, Mm.wrZ, hv, Int.toNat_natCast, hon, if_true]; rw [if_neg hg], by simp only [Mm.appE, hf, hm, Mm.wrE, hv, Int.toNat_natCast, hon, if_true]; rw [if_neg hg]⟩
      · exact fun hon hg => ⟨by simp only [Mm.appZ, hf, hm, Mm.wrZ, hv, Int.toNat_natCast, hon, if_true]; rw [if_pos hg], by simp only [Mm.appE, hf, hm, Mm.wrE, hv, Int.toNat_natCast, hon, if_true]; rw [if_pos hg]⟩
  · rw [show A.appZ core seq r = A by simp [Mm.appZ, hf], show A.appE core seq r = A.freeE core seq by simp [Mm.appE, hf]]
    exact rapp_full h hok core seq r hr hf
theorem Two.appL6 {W w : World} {G : Nat → Prop} {b y : Nat} {A A' : Mm} (h : Two W w G b y A A') (hok : A.ok 900) (core seq : Int) (r : Rc) (hr : r.ok) :
    Calls Try.prog 26 #[.pointer (some ⟨b, 0, none⟩), .int .i64 core, .int .i64 seq, .agg (rv r)] w (TwoAfter W w G b y (A.appZ core seq r) A' (.int .i64 (A.appE core seq r))) := by
  obtain ⟨F', gs, cz, gl, ads, caps, hrr, hh, hF, hG⟩ := h
  exact (hh.appR hok core seq r hr).mono fun e w' ha => two_left hrr hF hG ha

end Go.Proofs.Ytjidekjeibdbgaa


/-
  The document's Scan, on its memory beside the program's and blocks of the call's own: each record stands behind those that are not above it.
-/
namespace Go.Proofs.Ytjidekjeibdbgaa
open Go.ChangeShapes Go.WideShapes Go.ChangeAt Go.RowKit Go.Joins
set_option maxRecDepth 100000
set_option linter.unusedVariables false
set_option linter.unusedSimpArgs false

/-- Two memories, and a state in blocks C apart from the caller's G. -/
def TSt (W : World) (b y : Nat) (B A : Mm) (R : World → (Nat → Prop) → Prop) (w : World) (G : Nat → Prop) : Prop :=
  ∃ C : Nat → Prop, Two W w (fun k => G k ∨ C k) b y B A ∧ R w C ∧ (∀ k, G k → ¬ C k) ∧ (∀ k, C k → W.heap.size ≤ k)
theorem TSt.stay (W : World) (b y : Nat) (B A : Mm) {R : World → (Nat → Prop) → Prop} (hR : Loc R) : Stay W (TSt W b y B A R) where
  al := fun w G o ⟨C, h1, h2, h3, h4⟩ => ⟨C, (Two.stay W b y B A).ls _ _ _ ((Two.stay W b y B A).al _ _ o h1) (fun k hk => by
      rcases hk with (hk | hk) | hk
      · exact Or.inl (Or.inl hk)
      · exact Or.inr hk
      · exact Or.inl (Or.inr hk)), hR _ _ _ h2 (fun k hk => Below.heap_alloc w o k ((Two.stay W b y B A).lt _ _ h1 k (Or.inr hk))), (fun k hk hc => by
      rcases hk with hk | hk
      · exact h3 k hk hc
      · have := (Two.stay W b y B A).lt _ _ h1 k (Or.inr hc); omega), h4⟩
  ls := fun w G G' ⟨C, h1, h2, h3, h4⟩ hs => ⟨C, (Two.stay W b y B A).ls _ _ _ h1 (fun k hk => hk.imp (hs k) id), h2, fun k hk => h3 k (hs k hk), h4⟩
  bl := fun w w' G ⟨C, h1, h2, h3, h4⟩ hk => ⟨C, (Two.stay W b y B A).bl _ _ _ h1 hk, hR _ _ _ h2 (fun k hc => hk.block k ((Two.stay W b y B A).lt _ _ h1 k (Or.inr hc)) id), h3, h4⟩
  ow := fun w w' G L ⟨C, h1, h2, h3, h4⟩ hL hW hk => ⟨C, (Two.stay W b y B A).ow _ _ _ L h1 (Or.inl hL) hW hk, hR _ _ _ h2 (fun k hc => hk.block k ((Two.stay W b y B A).lt _ _ h1 k (Or.inr hc)) (fun e => h3 L hL (e ▸ hc))), h3, h4⟩
  lt := fun w G ⟨C, h1, _, _, _⟩ k hk => (Two.stay W b y B A).lt _ _ h1 k (Or.inl hk)
  sz := fun w G ⟨C, h1, _, _, _⟩ => (Two.stay W b y B A).sz _ _ h1
theorem TSt.after {W w : World} {b y : Nat} {B A B' A' : Mm} {R : World → (Nat → Prop) → Prop} (hR : Loc R) {G : Nat → Prop} {f : FuncId} {args : Array Value} {v : Value} (h : TSt W b y B A R w G)
    (hc : ∀ G, Two W w G b y B A → Calls Try.prog f args w (TwoAfter W w G b y B' A' v)) : Calls Try.prog f args w (Done (TSt W b y B' A' R) w G v) := by
  obtain ⟨C, h1, h2, h3, h4⟩ := h
  exact (hc _ h1).mono fun e w' ⟨he, hh, hs⟩ => ⟨he, ⟨C, hh, hR _ _ _ h2 (fun k hk => hs k (Or.inr hk)), h3, h4⟩, fun k hk => hs k (Or.inl hk)⟩
theorem tSt_nil {W w : World} {b y : Nat} {B A : Mm} {G : Nat → Prop} (h : Two W w G b y B A) : TSt W b y B A (RecSt W.heap.size (.slice none 0 0) []) w G :=
  ⟨fun _ => False, (Two.stay W b y B A).ls _ _ _ h (fun k hk => hk.elim id False.elim), ⟨fun k => by simp [Value.ownBlock], World.ownsRow_nil _ _ _ _⟩, fun k _ hc => hc, fun k hk => hk.elim⟩
/-- A new row in the old one's place; whatever was there is as it was. -/
theorem tSt_new {W w w' : World} {b y : Nat} {B A : Mm} {G : Nat → Prop} {v v' : Value} {rs rs' : List Rc} (h : TSt W b y B A (RecSt W.heap.size v rs) w G) (hk : Keeps (fun _ => False) w w') (ho : w'.ownsRow w.heap.size 24 4 v' rs'.length (flatR rs')) :
    TSt W b y B A (RecSt W.heap.size v' rs') w' G ∧ Same G w w' := by
  obtain ⟨D, g1, -, g3, g4⟩ := h
  have T := Two.stay W b y B A
  have hW := (T.sz _ _ g1).size
  have hlt := ho.lt
  obtain ⟨F', gs, cz, gl, ads, caps, hr, hh, hF, hG⟩ := g1
  have hh2 := hh.turn (P := fun _ => False) (fun k hk => hk.elim) hk
  refine ⟨⟨fun k => v'.ownBlock = some k, ⟨F', gs, cz, gl, ads, caps, hr.keeps hk fun _ _ => id, hh2.less (fun k hk' => ?_), hF, fun k hk' hf => ?_⟩, ⟨fun k => Iff.rfl, ⟨ho.1, ho.2.imp id fun ⟨g, cap, cur, q1, q2, q3⟩ => ⟨g, cap, cur, q1, Nat.le_trans hW q2, q3⟩⟩⟩, fun k hk' hc => ?_, fun k hk' => Nat.le_trans hW (hlt k hk').1⟩, fun k hk' => hk.block k (hh.lt k (Or.inl (Or.inl hk'))) id⟩
  · rcases hk' with (hk' | hk') | hk'
    · exact Or.inl (Or.inl (Or.inl hk'))
    · exact Or.inr (hlt k hk')
    · exact Or.inl (Or.inr hk')
  · rcases hk' with hk' | hk'
    · exact hG k (Or.inl hk') hf
    · have := hh.lt k (Or.inr hf)
      have := (hlt k hk').1
      omega
  · have := hh.lt k (Or.inl (Or.inl hk'))
    have := (hlt k hc).1
    omega
/-- Behind a Scan of either. -/
def TScanned (W w : World) (G : Nat → Prop) (b y : Nat) (B A : Mm) (rs : List Rc) (E : Int) (e : Ending) (w' : World) : Prop :=
  ∃ v, e = .returned (.tuple #[v, .int .i64 E]) ∧ TSt W b y B A (RecSt W.heap.size v rs) w' G ∧ Same G w w'
theorem Two.scanL6 {W w : World} {G : Nat → Prop} {b y : Nat} {A A' : Mm} (h : Two W w G b y A A') (hok : A.ok 1000) (z : Int) :
    Calls Try.prog 28 #[.pointer (some ⟨b, 0, none⟩), .int .i64 z] w (TScanned W w G b y A A' (A.scanV z) (A.scanE z)) := by
  obtain ⟨F', gs, cz, gl, ads, caps, hr, hh, hF, hG⟩ := h
  refine (hh.scanR hok z).mono fun e w' ⟨v, he, ⟨C, g1, g2, g3, g4⟩, hs⟩ => ⟨v, he, ⟨C, ⟨F', gs, cz, gl, ads, caps, hr.same fun k hk => hs k (Or.inr hk), g1.less (fun k hk => ?_), hF, fun k hk => ?_⟩, g2, fun k hk => g3 k (Or.inl hk), g4⟩, fun k hk => hs k (Or.inl hk)⟩
  · rcases hk with (hk | hk) | hk
    · exact Or.inl (Or.inl hk)
    · exact Or.inr hk
    · exact Or.inl (Or.inr hk)
  · rcases hk with hk | hk
    · exact hG k hk
    · exact fun hf => g3 k (Or.inr hf) hk
theorem rscan_bad {W w : World} {G : Nat → Prop} {b y : Nat} {B A : Mm} (h : Two W w G b y B A) (z : Int) (hz : ¬ isCores z) : Calls Try.prog 29 #[.pointer (some ⟨y, 0, none⟩), .int .i64 z] w (TScanned W w G b y B A [] 1) := by
  have H := hide h
  clear h
  by_cases h1 : z < 1
  · go_enter Try.func29, Try.ntmps29
    go_wp2_with fail
    go_ret2
    exact ⟨_, rfl, tSt_nil (unhide H), fun _ _ => rfl⟩
  · have h8 : ¬ z ≤ 8 := fun h => hz ⟨by omega, h⟩
    go_enter Try.func29, Try.ntmps29
    go_wp2_with fail
    go_ret2
    exact ⟨_, rfl, tSt_nil (unhide H), fun _ _ => rfl⟩
theorem rscan_off {W w : World} {G : Nat → Prop} {b y : Nat} {B A : Mm} (h : Two W w G b y B A) (hok : A.ok 1000) (hon : A.on = false) (n : Nat) (h1 : 1 ≤ n) (h8 : n ≤ 8) : Calls Try.prog 29 #[.pointer (some ⟨y, 0, none⟩), .int .i64 (n : Int)] w (TScanned W w G b y B A [] 4) := by
  have z1 : ¬ (n : Int) < 1 := by omega
  have z2 : (n : Int) ≤ 8 := by omega
  have z3 : (2 : Int) < 2 + 4 * (n : Int) := by omega
  have T := Two.stay W b y B A
  have O0 := hide (Held.start T h)
  have n8 := iv_new .u64 (rowOf fun _ => 0) 8 (rowOf_len _) 26
  have z8 : (iv .u64 (rowOf fun _ => 0)).size = 8 := by rw [iv_size, rowOf_len]
  have CL : Hid (∀ w G, Two W w G b y B A → Calls Try.prog 51 #[.pointer (some ⟨y, 0, none⟩), .int .i64 2] w (TwoAfter W w G b y B A (.tuple #[.agg (iv .u64 (rowOf fun _ => 0)), .int .i64 4]))) := fun w G h => by
    rw [← lnV_iv]
    exact h.rload_off hok 2 2 rfl (by have := hok.1; omega) hon
  clear h hok hon
  generalize iv .u64 (rowOf fun _ => 0) = X at *
  go_enter Try.func29, Try.ntmps29
  go_wp2_with fail
  go_loopw [6, 7] (fun z6 z7 wr => z6 = .slice none 0 0 ∧ z7 = .int .i64 2 ∧ wr = w) (fun _ _ _ => 0)
  case atStart => exact ⟨rfl, rfl, rfl⟩
  case round =>
    obtain ⟨rfl, rfl, rfl⟩ := hrel
    go_wp2_with fail
    refine (unhide CL _ _ (unhide O0).st).mono ?_
    rintro e w2 ⟨rfl, h1, h2⟩
    have O2 := hide (((unhide O0).call (St' := fun w G => Two W w G b y B A) h1 h2).alloc T (.cells X 26))
    clear h1 h2 O0
    go_wp2_with fail
    go_ret2
    obtain ⟨-, q1, q2⟩ := (unhide O2).done T (.int .i64 0)
    exact ⟨_, rfl, tSt_nil q1, q2⟩

end Go.Proofs.Ytjidekjeibdbgaa


/-
  The document's Scan with power on: each record stands behind those that are not above it.
-/
namespace Go.Proofs.Ytjidekjeibdbgaa
open Go.ChangeShapes Go.WideShapes Go.ChangeAt Go.RowKit Go.Joins
set_option maxRecDepth 100000
set_option linter.unusedVariables false
set_option linter.unusedSimpArgs false

theorem keeps_drewN (w : World) (m : Nat) : Keeps (fun _ => False) w (w.drewN m) := ⟨rfl, rfl, rfl, Nat.le_refl _, fun _ _ _ => rfl⟩
/-- What a row holds, for an append that reads it. -/
theorem row_src {w : World} {base n cap : Nat} {p : Option Addr} {xs : List Value} (h : w.ownsRow base 24 4 (.slice p n cap) n xs) :
    n ≤ cap ∧ ((p = none ∧ n = 0 ∧ cap = 0 ∧ xs = []) ∨ ∃ g, p = some ⟨g, 0, none⟩ ∧ ∀ V : World, Keeps (fun _ => False) w V → ∀ j u, xs[j]? = some u → V.cell? ⟨g, j, none⟩ = some u) := by
  rcases h.2 with ⟨h1, h2⟩ | ⟨g, cap', cur, h1, hb, hg, hnc, hcm, hcs, htake⟩
  · cases h1
    exact ⟨Nat.le_refl _, Or.inl ⟨rfl, rfl, rfl, List.eq_nil_of_length_eq_zero (by simpa using h.1)⟩⟩
  · cases h1
    refine ⟨hnc, Or.inr ⟨g, rfl, fun V hV j u hj => ?_⟩⟩
    refine hV.cellOf ?_ id
    rw [cell_of_block hg]
    have hj' : j < xs.length := by
      rcases Nat.lt_or_ge j xs.length with h' | h'
      · exact h'
      · rw [List.getElem?_eq_none h'] at hj; cases hj
    rw [← htake] at hj
    rw [List.getElem?_take] at hj
    split at hj
    · rw [Array.getElem?_toList] at hj; exact hj
    · cases hj
/-- What an append that reads it wants of a row. -/
def Src (X : World) (ao : Option Addr) (m c : Nat) (news : List Value) : Prop :=
  (ao = none → m = 0 ∧ c = 0) ∧ ∀ V, Keeps (fun _ => False) X V → ∀ ad, ao = some ad → ∀ j u, news[j]? = some u → V.cell? (ad.add j) = some u
theorem slice_size (w : World) : (sizeOf (Try.prog.elem 55)).run Try.prog w = .ok 4 w := by
  have : Try.prog.elem 55 = 24 := by kernel_rfl
  rw [this]
  have h := size4R
  cases hq : Try.prog.info? 24 with
  | none => rw [hq] at h; cases h
  | some i =>
    rw [hq] at h
    simp at h
    simp [sizeOf, typeInfo, hq, h]
theorem slice_under : Try.prog.underlying 55 = some (.slice (Try.prog.elem 55)) := by kernel_rfl
theorem flatR_take (rs : List Rc) (k : Nat) (hk : k ≤ rs.length) : flatR (rs.take k) = (flatR rs).take (k * 4) := by
  have h : flatR rs = flatR (rs.take k) ++ flatR (rs.drop k) := by rw [← flatR_append, List.take_append_drop]
  have hl : (flatR (rs.take k)).length = k * 4 := by rw [flatR_len, List.length_take]; omega
  rw [h, List.take_append_of_le_length (by omega), ← hl, List.take_length]
theorem flatR_drop (rs : List Rc) (k : Nat) (hk : k ≤ rs.length) : flatR (rs.drop k) = (flatR rs).drop (k * 4) := by
  have h : flatR rs = flatR (rs.take k) ++ flatR (rs.drop k) := by rw [← flatR_append, List.take_append_drop]
  have hl : (flatR (rs.take k)).length = k * 4 := by rw [flatR_len, List.length_take]; omega
  rw [h, ← hl, List.drop_left]
theorem src_take {w : World} {base cap : Nat} {p : Option Addr} {rs : List Rc} (h : w.ownsRow base 24 4 (.slice p rs.length cap) rs.length (flatR rs)) (k : Nat) (hk : k ≤ rs.length) :
    ∃ ao, (∀ w' : World, (Instr.slice 55 (.slice p rs.length cap) none (some (.int .i64 (k : Int))) none).run Try.prog w' = .ok (.slice ao k cap) w') ∧ Src w ao k cap (flatR (rs.take k)) := by
  obtain ⟨hc, hs⟩ := row_src h
  refine ⟨if cap = 0 then p else p.map (·.add (0 * 4)), fun w' => ?_, ?_, ?_⟩
  · rw [run_slice_h _ _ _ _ _ slice_under .i64 (k : Int) (by omega) (by omega), slice_size]
    simp [Result.andThen, sliced]
  · rcases hs with ⟨rfl, h1, h2, -⟩ | ⟨g, rfl, -⟩
    · exact fun _ => ⟨by omega, h2⟩
    · intro e; split at e <;> cases e
  · intro V hV ad had j u hj
    rw [flatR_take rs k hk, List.getElem?_take] at hj
    split at hj
    · rcases hs with ⟨rfl, -, -, -⟩ | ⟨g, rfl, hs⟩
      · split at had <;> cases had
      · have : ad = ⟨g, 0, none⟩ := by split at had <;> cases had <;> rfl
        subst this
        rw [Addr.add_mid, Nat.zero_add]
        exact hs V hV j u hj
    · cases hj
theorem src_drop {w : World} {base cap : Nat} {p : Option Addr} {rs : List Rc} (h : w.ownsRow base 24 4 (.slice p rs.length cap) rs.length (flatR rs)) (k : Nat) (hk : k ≤ rs.length) :
    ∃ ao, (∀ w' : World, (Instr.slice 55 (.slice p rs.length cap) (some (.int .i64 (k : Int))) none none).run Try.prog w' = .ok (.slice ao (rs.length - k) (cap - k)) w') ∧ Src w ao (rs.length - k) (cap - k) (flatR (rs.drop k)) := by
  obtain ⟨hc, hs⟩ := row_src h
  refine ⟨if cap = k then p else p.map (·.add (k * 4)), fun w' => ?_, ?_, ?_⟩
  · rw [run_slice_l _ _ _ _ _ slice_under .i64 (k : Int) (by omega) (by omega), slice_size]
    simp [Result.andThen, sliced]
  · rcases hs with ⟨rfl, h1, h2, -⟩ | ⟨g, rfl, -⟩
    · exact fun _ => ⟨by omega, by omega⟩
    · intro e; split at e <;> cases e
  · intro V hV ad had j u hj
    rw [flatR_drop rs k hk, List.getElem?_drop] at hj
    by_cases hck : cap = k
    · rw [List.getElem?_eq_none (by rw [flatR_len]; omega)] at hj; cases hj
    · rw [if_neg hck] at had
      rcases hs with ⟨rfl, -, -, -⟩ | ⟨g, rfl, hs⟩
      · cases had
      · have : ad = ⟨g, k * 4, none⟩ := by cases had; simp [Addr.add_mid]
        subst this
        rw [Addr.add_mid]
        exact hs V hV _ u hj
theorem yieldsIf_slice_h {ops : Array Oper} {S : World → Prop} {op : Oper} {a : Act} {vx vk v : Value} (h : ∀ w : World, (Instr.slice 55 vx none (some vk) none).run Try.prog w = .ok v w) (hw : Region.wanted op (yielded ops a.tmps) = true) (x k : Operand) (ho : op.op = .slice 55 x none (some k) none)
    (hx : a.eval x = vx) (hk : a.eval k = vk) : YieldsIf Try.prog ops S op v a :=
  .inl ⟨hw, fun w _ => by
    unfold execOp
    simp only [ho, hx, hk, Option.map_none, Option.map_some, Sem.run_bind, Sem.run_pure, run_sliceAt_slice _ _ _ _ _ _ slice_under, h w, Result.andThen_ok]⟩
theorem wpList_append_src {P : Program} {w : World} {ops : Array Oper} {rest : List Oper} {o : Oper} {a : Act} {Q : Exit → Act → World → Prop} (hgd : o.guard = none) (s x : Operand) (t : TypeId)
    (ho : o.op = .call { callee := .builtin .append, args := #[s, x], argTypes := #[t, t] })
    (base : Nat) (e : TypeId) (i : TypeInfo) (z : Value) (size bytes : Nat) (ht : P.underlying t = some (.slice e)) (hi : P.info? e = some i) (hz : i.zero = some z)
    (hsize : i.size = size) (hby : i.bytes = bytes) (hzs : z.cells.size = size) (hsz : 0 < size)
    (v : Value) (n : Nat) (xs : List Value) (hs : a.eval s = v) (hown : w.ownsRow base e size v n xs)
    (ao : Option Addr) (m c : Nat) (news : List Value) (hx : a.eval x = .slice ao m c) (hno : ao = none → m = 0 ∧ c = 0) (hl : news.length = m * size) (hnews : ∀ ad, ao = some ad → ∀ j u, news[j]? = some u → w.cell? (ad.add j) = some u) (h1 : ∀ u ∈ news, u.oneCell' = true)
    (h63 : n + m ≤ maxLen) (hbytes : (n + m) * bytes ≤ 140737488355328) (hbase : base ≤ w.heap.size)
    (h : ∀ v' w', w'.ownsRow base e size v' (n + m) (xs ++ news) → w.grownBy w' v.ownBlock → wpList P ops Q rest (a.put o.dst v') w') : wpList P ops Q (o :: rest) a w :=
  wpList_plain hgd fun _ hK => wp_append_src s x t ho base e i z size bytes ht hi hz hsize hby hzs hsz v n xs hs hown ao m c news hx hno hl hnews h1 h63 hbytes hbase fun v' w' q1 q2 _ => hK _ _ (h v' w' q1 q2)
theorem own_neR {V : World} {base E nb : Nat} {r : Rc} (h : V.ownsRow base 24 4 (.slice (some ⟨E, 0, none⟩) 0 0) 0 []) (hn : V.heap[nb]? = some (.cells (rv r) 24 (0, 0))) : nb ≠ E := fun e => by
  rcases h.2 with ⟨h', _⟩ | ⟨g', cap', cur, h', _, hg, _, _, hcs, _⟩
  · simp at h'
  · simp only [Value.slice.injEq, Option.some.injEq, Addr.mk.injEq, and_true, true_and] at h'
    obtain ⟨rfl, rfl⟩ := h'
    rw [← e, hn] at hg
    simp at hg
    rw [← hg] at hcs
    simp [rv] at hcs
set_option maxHeartbeats 4000000 in
theorem rscan_on {W w : World} {G : Nat → Prop} {b y : Nat} {B A : Mm} (h : Two W w G b y B A) (hok : A.ok 1000) (hon : A.on = true) (n : Nat) (h1 : 1 ≤ n) (h8 : n ≤ 8) : Calls Try.prog 29 #[.pointer (some ⟨y, 0, none⟩), .int .i64 (n : Int)] w (TScanned W w G b y B A (sortR (A.recs (4 * n))) 0) := by
  have z1 : ¬ (n : Int) < 1 := by omega
  have z2 : (n : Int) ≤ 8 := by omega
  have O0 := hide (Held.start (TSt.stay W b y B A (recSt_loc W.heap.size (.slice none 0 0) [])) (tSt_nil h))
  have CL : Hid (∀ i, i < 4 * n → ∀ ln : Nat, ln = 2 + i → ∀ v rs w G, TSt W b y B A (RecSt W.heap.size v rs) w G → Calls Try.prog 51 #[.pointer (some ⟨y, 0, none⟩), .int .i64 (ln : Int)] w (Done (TSt W b y B A (RecSt W.heap.size v rs)) w G (.tuple #[.agg (iv .u64 (A.rowN (2 + i))), .int .i64 0]))) := fun i hi ln hln v rs w G h => by
    subst hln
    refine h.after (recSt_loc _ _ _) (fun G h => ?_)
    unfold Mm.rowN
    rw [← lnV_iv]
    exact h.rload_on hok _ _ rfl (by have := hok.1; omega) hon
  have CR : Hid (∀ i, ∀ w : World, Calls Try.prog 13 #[.agg (iv .u64 (A.rowN (2 + i)))] w fun e w' => e = .returned (.tuple #[.agg (rv (readRV (A.rowN (2 + i)))), .bool (isR (A.rowN (2 + i)))]) ∧ Below w.heap.size w w') := fun i => rreadR_any _ (rowN_len _ _) (rowN_wf hok _)
  have HZ : Hid (∀ i, (iv .u64 (A.rowN (2 + i))).size = 8) := fun i => by show _ = _; rw [iv_size, rowN_len]
  have HNX : Hid (∀ i, ∀ (W : World) (C : Array Value), C.size = 8 → Sem.run Try.prog (storeCells ⟨W.heap.size, 0, none⟩ (iv .u64 (A.rowN (2 + i))).toList) (W.alloc (.cells C 26)) = .ok () (W.alloc (.cells (iv .u64 (A.rowN (2 + i))) 26))) := fun i => iv_new .u64 _ 8 (rowN_len _ _) 26
  have HRS : Hid (∀ i, A.recs (i + 1) = A.recs i ++ recAt (A.rowN (2 + i))) := fun i => rfl
  have HLN : Hid (∀ i, (sortR (A.recs i)).length ≤ i) := fun i => by rw [sortR_len]; exact recs_len A i
  have HR0 : Hid (sortR (A.recs 0) = []) := rfl
  clear h hok hon
  go_enter Try.func29, Try.ntmps29
  go_wp2_with fail
  go_loopw [6, 7] (fun z6 z7 wr => ∃ (i : Nat), i ≤ 4 * n ∧ z7 = .int .i64 ((2 + i : Nat) : Int) ∧ Aside (Held W (TSt W b y B A (RecSt W.heap.size z6 (sortR (A.recs i)))) w wr G [])) (fun _ z7 _ => 2 + 4 * n - (intOf z7).toNat)
  case atStart => exact ⟨0, by omega, rfl, by rw [unhide HR0]; exact unhide O0⟩
  case round =>
    clear O0
    obtain ⟨i, hi, rfl, HH⟩ := hrel
    rename_i z6
    by_cases hlt : i < 4 * n
    · obtain ⟨ln, hln⟩ : ∃ ln : Nat, ln = 2 + i := ⟨_, rfl⟩
      have C1 := hide (unhide CL i hlt ln hln)
      have C2 := hide (unhide CR i)
      have nX := unhide HNX i
      have zX := unhide HZ i
      have hR := unhide HRS i
      have hL := unhide HLN i
      have T : ∀ v rs, Stay W (TSt W b y B A (RecSt W.heap.size v rs)) := fun v rs => TSt.stay W b y B A (recSt_loc _ _ _)
      have s8 : (Try.prog.info? 26).map (·.size) = some (iv .u64 (A.rowN (2 + i))).size := by rw [zX]; exact size8
      have hra : recAt (A.rowN (2 + i)) = if isR (A.rowN (2 + i)) then [readRV (A.rowN (2 + i))] else [] := rfl
      rw [← hln]
      generalize iv .u64 (A.rowN (2 + i)) = X at *
      generalize readRV (A.rowN (2 + i)) = r at *
      generalize isR (A.rowN (2 + i)) = ok at *
      have nR := rv_new r 24
      have z4 := rv_size r
      have hltz : (ln : Int) < 2 + 4 * (n : Int) := by omega
      have HNX2 : Hid (ok = false → sortR (A.recs (i + 1)) = sortR (A.recs i)) := fun e => by rw [hR, hra, e]; simp
      have HNX3 : Hid (ok = true → sortR (A.recs (i + 1)) = insR (sortR (A.recs i)) r) := fun e => by rw [hR, hra, e]; exact sortR_snoc _ _
      have HLE := hide hln
      generalize sortR (A.recs i) = rs at *
      clear hln hR hra CL CR HZ HNX HRS HLN HR0
      go_wp2_with fail
      refine (unhide C1 _ _ _ _ HH.out.st).mono ?_
      rintro e w2 ⟨rfl, q1, q2⟩
      have O2 := hide ((HH.out.call q1 q2).alloc (T _ _) (.cells X 26))
      clear q1 q2 HH
      have KX := hide ((unhide O2).at w2.heap.size (.cells X 26) (by simp))
      go_wp2_with (refine wpList_load_row rfl 26 _ rfl w2.heap.size rfl _ _ _ _ (unhide KX) Try.underlying26 rfl s8 ?_)
      refine (unhide C2 _).mono ?_
      rintro e w3 ⟨rfl, hb⟩
      have O3 := hide (((unhide O2).below (T _ _) hb).alloc (T _ _) (.cells (rv r) 24))
      clear hb O2 KX nX C1 C2
      cases ok with
      | false =>
        have HN := hide (unhide HNX2 rfl)
        have O4 := hide ((unhide O3).less (T _ _) (L' := []) (by simp))
        clear HNX2 HNX3 O3
        go_wp2_with fail
        go_roundw
        case rel => exact ⟨i + 1, by omega, by have := unhide HLE; subst this; go_num, by rw [unhide HN]; exact unhide O4⟩
        case measure =>
          have := unhide HLE
          subst this
          simp [intOf]; omega
      | true =>
        have HN := hide (unhide HNX3 rfl)
        clear HNX2 HNX3
        obtain ⟨p, cap, ez, hat⟩ := owns_open (unhide O3).st.choose_spec.2.1.2
        subst ez
        have HAT := hide hat
        have hat2 := row_src (unhide O3).st.choose_spec.2.1.2
        have KR := hide ((unhide O3).at w3.heap.size (.cells (rv r) 24) (by simp))
        clear hat
        have HW := hide hat2
        clear hat2
        go_wp2_with fail
        obtain ⟨L, hL10⟩ : ∃ L, L = w3.heap.size := ⟨_, rfl⟩
        rw [← hL10] at KR O3 ⊢
        clear hL10
        generalize w3.alloc (.cells (rv r) 24) = w4 at *
        clear nR z4 zX s8
        go_loopw [12] (fun z wr' => ∃ k : Nat, k ≤ rs.length ∧ z = .int .i64 (k : Int) ∧ insK (fun j => (rs.getD j zr).q) r.q k = insK (fun j => (rs.getD j zr).q) r.q rs.length ∧ ∃ m, wr' = w4.drewN m) (fun z _ => (intOf z).toNat)
        case atStart => exact ⟨rs.length, by omega, rfl, rfl, 0, rfl⟩
        case round =>
          obtain ⟨k, hk, rfl, hik, m, rfl⟩ := hrel
          have HIK := hide hik
          clear hik
          have HV := hide (keeps_drewN w4 m)
          have DN : Hid (∀ j, ∃ m', (w4.drewN m).drewN j = w4.drewN m') := fun j => ⟨m + j, by rw [World.drewN_drewN]⟩
          by_cases hk0 : k = 0
          · have HK : Hid (k = insK (fun j => (rs.getD j zr).q) r.q rs.length) := by
              have h1 := unhide HIK
              rw [hk0] at h1 ⊢
              exact h1
            clear HIK
            have hd : decide ((0 : Int) < (k : Int)) = false := by simp; omega
            generalize w4.drewN m = w7 at *
            go_wp2_with fail
            go_quiet (fail)
            go_wp2_with fail
            clear hk0 hd
            obtain ⟨m', e7⟩ := unhide DN nq
            rw [e7]
            clear e7 HV DN HAT HW
            obtain ⟨ao1, sl1, sc1⟩ := src_take (unhide O3).st.choose_spec.2.1.2 k hk
            obtain ⟨ao2, sl2, sc2⟩ := src_drop (unhide O3).st.choose_spec.2.1.2 k hk
            have SL1 := hide sl1
            have SL2 := hide sl2
            have SC1 := hide sc1
            have SC2 := hide sc2
            have SR : Hid (∀ V, Keeps (fun _ => False) w4 V → V.rangeAt L 0 (rv r).toList) := fun V hV j u hj => hV.cellOf (by rw [Nat.zero_add, cell_of_block (unhide KR)]; rw [Array.getElem?_toList] at hj; exact hj) id
            clear sl1 sl2 sc1 sc2
            refine wp_region_noPanic ?_
            refine wp_region_held_drew (S := fun w' => w'.rangeAt L 0 (rv r).toList) (by kernel_rfl) (unhide SR _ (keeps_drewN w4 m').drew) (fun hHeld => ?_)
            have HV : Hid (Keeps (fun _ => False) w4 (w4.drewN m').drew) := (keeps_drewN w4 m').drew
            refine take_at 1 61 (v := ?_) rfl rfl (by kernel_rfl) (by kernel_rfl) (by kernel_rfl) (Or.inl ⟨by rfl, ?_⟩) hHeld ?_
            rotate_left
            · intro w hSw; go_simp; with_reducible rfl
            simp only [Act.put, List.setIfInBounds_toArray, List.set_cons_zero, List.set_cons_succ]
            refine take_at 2 62 (v := ?_) rfl rfl (by kernel_rfl) (by kernel_rfl) (by kernel_rfl) (Or.inl ⟨by rfl, ?_⟩) hHeld ?_
            rotate_left
            · intro w hSw; go_simp; with_reducible rfl
            simp only [Act.put, List.setIfInBounds_toArray, List.set_cons_zero, List.set_cons_succ]
            refine take_at 3 63 rfl rfl (by kernel_rfl) (by kernel_rfl) (by kernel_rfl) (yieldsIf_slice_h (unhide SL1) (by rfl) (.tmp 61) (.tmp 62) rfl rfl rfl) hHeld ?_
            simp only [Act.put, List.setIfInBounds_toArray, List.set_cons_zero, List.set_cons_succ]
            refine take_at 5 65 rfl rfl (by kernel_rfl) (by kernel_rfl) (by kernel_rfl) (yieldsIf_load_mid (by rfl) 24 (.tmp 10) rfl L 0 rfl (rv r).toList _ (fun w h => h) Try.underlying24 rfl size4R) hHeld ?_
            simp only [Act.put, List.setIfInBounds_toArray, List.set_cons_zero, List.set_cons_succ]
            generalize (w4.drewN m').drew = V at *
            have hB : rs.length ≤ 32 := by omega
            have tk : (rs.take k).length = k := by rw [List.length_take]; omega
            have dk : (rs.drop k).length = rs.length - k := by rw [List.length_drop]
            have z4 := rv_size r
            have f4 : Array.foldl (fun (cs : Array Value) (x : Value × Nat) => cs.setIfInBounds x.snd x.fst) #[.int .i64 0, .int .i64 0, .int .i64 0, .int .u64 0] (rv r).zipIdx 0 4 = rv r := by rfl
            refine wpAnyH_ready (rs := [0, 6]) (by kernel_rfl) (by simp) ?_
            refine AllReadyH.cons rfl (fun K hK => ?_) (AllReadyH.cons rfl (fun K hK => ?_) AllReadyH.nil)
            · skip
              go_simp
              have HV1 : Hid (Keeps (fun _ => False) w4 (V.alloc (.cells #[] 24))) := (unhide HV).alloc _
              refine hK.out _ _ (unhide SR _ (unhide HV1)) (fun hNew => ?_)
              have OWa : Hid ((V.alloc (.cells #[] 24)).ownsRow w4.heap.size 24 4 (.slice (some ⟨V.heap.size, 0, none⟩) 0 0) 0 []) := World.ownsRow_lit (base := w4.heap.size) (e := 24) (size := 4) V #[] 0 (unhide HV).size (by decide) rfl
              have HEX : Hid (w4.heap.size ≤ V.heap.size) := (unhide HV).size
              clear HV
              have HV := HV1
              clear HV1
              try (have NB1 := hide ((Below.heap_alloc V (.cells #[] 24) nb (lt_of_block (unhide NBq))).trans (unhide NBq)); clear NBq; have NBq := NB1; clear NB1)
              obtain ⟨E, hE⟩ : ∃ E, E = V.heap.size := ⟨_, rfl⟩
              rw [← hE] at OWa HEX ⊢
              clear hE
              obtain ⟨V, hV⟩ : ∃ V' : World, V' = V.alloc (.cells #[] 24) := ⟨_, rfl⟩
              rw [← hV] at OWa HV hNew ⊢
              try rw [← hV] at NBq
              clear hV
              clear hK K hHeld
              have hHeld := hNew
              clear hNew
              try simp only [Act.put, List.setIfInBounds_toArray]
              refine wpAnyH_ready (rs := [4, 6]) (by kernel_rfl) (by simp) ?_
              refine AllReadyH.cons rfl (fun K hK => ?_) (AllReadyH.cons rfl (fun K hK => ?_) AllReadyH.nil)
              · skip
                refine (if_pos (by rfl)).mpr ?_
                obtain ⟨i0, hi0, hz0, hz1, hz2⟩ := info_parts info_rec
                refine wp_append_src (.tmp 60) (.tmp 63) 55 rfl w4.heap.size 24 i0 _ 4 32 Try.underlying55 hi0 hz0 hz1 hz2 rfl (by decide) (.slice (some ⟨E, 0, none⟩) 0 0) 0 [] rfl (unhide OWa) ao1 k cap (flatR (rs.take k)) rfl (unhide SC1).1 (by rw [flatR_len, tk]) ((unhide SC1).2 V (unhide HV)) (flatR_one _) (by unfold maxLen; omega) (by omega) (unhide HV).size ?_
                intro v1 w5 hown hgr hnil
                rw [Nat.zero_add, List.nil_append] at hown
                have OWp := hide hown
                have HV1 : Hid (Keeps (fun _ => False) w4 w5) := Keeps.grown (unhide HV) hgr (fun k hk => by simp [Value.ownBlock] at hk; right; have := unhide HEX; omega)
                try (have NB1 := hide ((hgr.block nb (lt_of_block (unhide NBq)) (fun e => own_neR (unhide OWa) (unhide NBq) (by simpa [Value.ownBlock] using e))).trans (unhide NBq)); clear NBq; have NBq := NB1; clear NB1)
                refine hK.out _ _ (unhide SR _ (unhide HV1)) (fun hNew => ?_)
                clear HV OWa hown hgr hnil hi0 hz0 hz1 hz2 i0
                have HV := HV1
                clear HV1
                obtain ⟨V, hV⟩ : ∃ V' : World, V' = w5 := ⟨_, rfl⟩
                rw [← hV] at OWp HV hNew ⊢
                try rw [← hV] at NBq
                clear hV
                clear hK K hHeld
                have hHeld := hNew
                clear hNew
                try simp only [Act.put, List.setIfInBounds_toArray]
                refine wpAnyH_ready (rs := [6]) (by kernel_rfl) (by simp) ?_
                refine AllReadyH.cons rfl (fun K hK => ?_) AllReadyH.nil
                go_simp
                have HV1 : Hid (Keeps (fun _ => False) w4 (V.alloc (.cells (rv r) 24))) := (unhide HV).alloc _
                refine hK.out _ _ (unhide SR _ (unhide HV1)) (fun hNew => ?_)
                have NBq : Hid ((V.alloc (.cells (rv r) 24)).heap[V.heap.size]? = some (.cells (rv r) 24 (0, 0))) := heap_new V _
                clear HV
                have HV := HV1
                clear HV1
                try (have OW1 := hide ((unhide OWa).alloc (.cells (rv r) 24)); clear OWa; have OWa := OW1; clear OW1)
                try (have OW1 := hide ((unhide OWp).alloc (.cells (rv r) 24)); clear OWp; have OWp := OW1; clear OW1)
                obtain ⟨nb, hnb⟩ : ∃ nb, nb = V.heap.size := ⟨_, rfl⟩
                rw [← hnb] at NBq ⊢
                clear hnb
                obtain ⟨V, hV⟩ : ∃ V' : World, V' = V.alloc (.cells (rv r) 24) := ⟨_, rfl⟩
                rw [← hV] at NBq HV hNew ⊢
                try rw [← hV] at OWa
                try rw [← hV] at OWp
                clear hV
                clear hK K hHeld
                have hHeld := hNew
                clear hNew
                try simp only [Act.put, List.setIfInBounds_toArray]
                refine wpAnyH_ready (rs := [7]) (by kernel_rfl) (by simp) ?_
                refine AllReadyH.cons rfl (fun K hK => ?_) AllReadyH.nil
                refine (if_pos (by rfl)).mpr ?_
                obtain ⟨i0, hi0, hz0, hz1, hz2⟩ := info_parts info_rec
                refine wp_append_own _ (.tmp 64) (.tmp 66) 55 rfl w4.heap.size 24 i0 _ 4 32 Try.underlying55 hi0 hz0 hz1 hz2 rfl (by decide) v1 k (flatR (rs.take k)) rfl (unhide OWp) ⟨nb, 0, none⟩ 1 1 (rv r).toList rfl rfl (fun j u hj => by rw [Addr.add_mid, Nat.zero_add, cell_of_block (unhide NBq)]; rw [Array.getElem?_toList] at hj; exact hj) (fun x hx => flatR_one [r] x (by simp [flatR]; simpa using hx)) (by unfold maxLen; omega) (by omega) (unhide HV).size ?_
                intro v2 w6 hown hgr hnil
                have HV6 : Hid (Keeps (fun _ => False) w4 w6) := Keeps.grown (unhide HV) hgr (fun k hk => by
                  right
                  exact ((unhide OWp).lt k hk).1)
                have OW6 := hide hown
                refine hK.out _ _ (unhide SR _ (unhide HV6)) (fun hNew => ?_)
                clear hown hgr hnil HV OWp NBq
                clear hK K hHeld
                have hHeld := hNew
                clear hNew
                try simp only [Act.put, List.setIfInBounds_toArray]
                refine take_at 8 13 (v := ?_) rfl rfl (by kernel_rfl) (by kernel_rfl) (by kernel_rfl) (Or.inl ⟨by rfl, ?_⟩) hHeld ?_
                rotate_left
                · intro w hSw; go_simp; with_reducible rfl
                simp only [Act.put, List.setIfInBounds_toArray, List.set_cons_zero, List.set_cons_succ]
                refine wpAnyH_done (by kernel_rfl) ?_ _
                refine NoPanic.normal ?_
                clear hHeld
                have FINI : Hid (∀ v3 w7, w7.ownsRow w4.heap.size 24 4 v3 (k + 1 + (rs.length - k)) ((flatR (rs.take k) ++ (rv r).toList) ++ flatR (rs.drop k)) → w6.grownBy w7 v2.ownBlock → Hid (Held W (TSt W b y B A (RecSt W.heap.size v3 (insR rs r))) w w7 G [])) := fun v3 w7 q1 q2 => by
                  have e1 : flatR (insR rs r) = (flatR (rs.take k) ++ (rv r).toList) ++ flatR (rs.drop k) := by
                    unfold insR
                    rw [← unhide HK, flatR_append, List.append_assoc]
                    rfl
                  have e2 : (insR rs r).length = k + 1 + (rs.length - k) := by rw [insR_len]; omega
                  rw [← e1, ← e2] at q1
                  have hk7 : Keeps (fun _ => False) w4 w7 := Keeps.grown (unhide HV6) q2 (fun k hk => Or.inr ((unhide OW6).lt k hk).1)
                  obtain ⟨t1, t2⟩ := tSt_new (unhide O3).st hk7 q1
                  exact ((unhide O3).call t1 t2).less (T _ _) (by simp)
                have sl2 := unhide SL2
                have b1 : k + 1 + (rs.length - k) ≤ maxLen := by unfold maxLen; omega
                have b2 : (k + 1 + (rs.length - k)) * 32 ≤ 140737488355328 := by omega
                clear SL1 SC1 SR KR O3 f4
                go_wp2_with (at_builtin; refine wpList_append_src rfl (.tmp 68) (.tmp 71) 55 rfl w4.heap.size 24 i0 _ 4 32 Try.underlying55 hi0 hz0 hz1 hz2 rfl (by decide) v2 (k + 1) _ rfl (unhide OW6) ao2 (rs.length - k) (cap - k) (flatR (rs.drop k)) rfl (unhide SC2).1 (by rw [flatR_len, dk]) ((unhide SC2).2 w6 (unhide HV6)) (flatR_one _) b1 b2 (unhide HV6).size ?_; intro v3 w8 q1 q2; have O7 := unhide FINI v3 w8 q1 q2; clear q1 q2 FINI)
                have hLN := unhide HLE
                subst hLN
                exact ⟨⟨i + 1, by omega, congrArg (Value.int .i64) (by omega), by rw [unhide HN]; exact unhide O7⟩, by simp [intOf]; omega⟩
              · skip
                go_simp
                have HV1 : Hid (Keeps (fun _ => False) w4 (V.alloc (.cells (rv r) 24))) := (unhide HV).alloc _
                refine hK.out _ _ (unhide SR _ (unhide HV1)) (fun hNew => ?_)
                have NBq : Hid ((V.alloc (.cells (rv r) 24)).heap[V.heap.size]? = some (.cells (rv r) 24 (0, 0))) := heap_new V _
                clear HV
                have HV := HV1
                clear HV1
                try (have OW1 := hide ((unhide OWa).alloc (.cells (rv r) 24)); clear OWa; have OWa := OW1; clear OW1)
                try (have OW1 := hide ((unhide OWp).alloc (.cells (rv r) 24)); clear OWp; have OWp := OW1; clear OW1)
                obtain ⟨nb, hnb⟩ : ∃ nb, nb = V.heap.size := ⟨_, rfl⟩
                rw [← hnb] at NBq ⊢
                clear hnb
                obtain ⟨V, hV⟩ : ∃ V' : World, V' = V.alloc (.cells (rv r) 24) := ⟨_, rfl⟩
                rw [← hV] at NBq HV hNew ⊢
                try rw [← hV] at OWa
                try rw [← hV] at OWp
                clear hV
                clear hK K hHeld
                have hHeld := hNew
                clear hNew
                try simp only [Act.put, List.setIfInBounds_toArray]
                refine wpAnyH_ready (rs := [4]) (by kernel_rfl) (by simp) ?_
                refine AllReadyH.cons rfl (fun K hK => ?_) AllReadyH.nil
                refine (if_pos (by rfl)).mpr ?_
                obtain ⟨i0, hi0, hz0, hz1, hz2⟩ := info_parts info_rec
                refine wp_append_src (.tmp 60) (.tmp 63) 55 rfl w4.heap.size 24 i0 _ 4 32 Try.underlying55 hi0 hz0 hz1 hz2 rfl (by decide) (.slice (some ⟨E, 0, none⟩) 0 0) 0 [] rfl (unhide OWa) ao1 k cap (flatR (rs.take k)) rfl (unhide SC1).1 (by rw [flatR_len, tk]) ((unhide SC1).2 V (unhide HV)) (flatR_one _) (by unfold maxLen; omega) (by omega) (unhide HV).size ?_
                intro v1 w5 hown hgr hnil
                rw [Nat.zero_add, List.nil_append] at hown
                have OWp := hide hown
                have HV1 : Hid (Keeps (fun _ => False) w4 w5) := Keeps.grown (unhide HV) hgr (fun k hk => by simp [Value.ownBlock] at hk; right; have := unhide HEX; omega)
                try (have NB1 := hide ((hgr.block nb (lt_of_block (unhide NBq)) (fun e => own_neR (unhide OWa) (unhide NBq) (by simpa [Value.ownBlock] using e))).trans (unhide NBq)); clear NBq; have NBq := NB1; clear NB1)
                refine hK.out _ _ (unhide SR _ (unhide HV1)) (fun hNew => ?_)
                clear HV OWa hown hgr hnil hi0 hz0 hz1 hz2 i0
                have HV := HV1
                clear HV1
                obtain ⟨V, hV⟩ : ∃ V' : World, V' = w5 := ⟨_, rfl⟩
                rw [← hV] at OWp HV hNew ⊢
                try rw [← hV] at NBq
                clear hV
                clear hK K hHeld
                have hHeld := hNew
                clear hNew
                try simp only [Act.put, List.setIfInBounds_toArray]
                refine wpAnyH_ready (rs := [7]) (by kernel_rfl) (by simp) ?_
                refine AllReadyH.cons rfl (fun K hK => ?_) AllReadyH.nil
                refine (if_pos (by rfl)).mpr ?_
                obtain ⟨i0, hi0, hz0, hz1, hz2⟩ := info_parts info_rec
                refine wp_append_own _ (.tmp 64) (.tmp 66) 55 rfl w4.heap.size 24 i0 _ 4 32 Try.underlying55 hi0 hz0 hz1 hz2 rfl (by decide) v1 k (flatR (rs.take k)) rfl (unhide OWp) ⟨nb, 0, none⟩ 1 1 (rv r).toList rfl rfl (fun j u hj => by rw [Addr.add_mid, Nat.zero_add, cell_of_block (unhide NBq)]; rw [Array.getElem?_toList] at hj; exact hj) (fun x hx => flatR_one [r] x (by simp [flatR]; simpa using hx)) (by unfold maxLen; omega) (by omega) (unhide HV).size ?_
                intro v2 w6 hown hgr hnil
                have HV6 : Hid (Keeps (fun _ => False) w4 w6) := Keeps.grown (unhide HV) hgr (fun k hk => by
                  right
                  exact ((unhide OWp).lt k hk).1)
                have OW6 := hide hown
                refine hK.out _ _ (unhide SR _ (unhide HV6)) (fun hNew => ?_)
                clear hown hgr hnil HV OWp NBq
                clear hK K hHeld
                have hHeld := hNew
                clear hNew
                try simp only [Act.put, List.setIfInBounds_toArray]
                refine take_at 8 13 (v := ?_) rfl rfl (by kernel_rfl) (by kernel_rfl) (by kernel_rfl) (Or.inl ⟨by rfl, ?_⟩) hHeld ?_
                rotate_left
                · intro w hSw; go_simp; with_reducible rfl
                simp only [Act.put, List.setIfInBounds_toArray, List.set_cons_zero, List.set_cons_succ]
                refine wpAnyH_done (by kernel_rfl) ?_ _
                refine NoPanic.normal ?_
                clear hHeld
                have FINI : Hid (∀ v3 w7, w7.ownsRow w4.heap.size 24 4 v3 (k + 1 + (rs.length - k)) ((flatR (rs.take k) ++ (rv r).toList) ++ flatR (rs.drop k)) → w6.grownBy w7 v2.ownBlock → Hid (Held W (TSt W b y B A (RecSt W.heap.size v3 (insR rs r))) w w7 G [])) := fun v3 w7 q1 q2 => by
                  have e1 : flatR (insR rs r) = (flatR (rs.take k) ++ (rv r).toList) ++ flatR (rs.drop k) := by
                    unfold insR
                    rw [← unhide HK, flatR_append, List.append_assoc]
                    rfl
                  have e2 : (insR rs r).length = k + 1 + (rs.length - k) := by rw [insR_len]; omega
                  rw [← e1, ← e2] at q1
                  have hk7 : Keeps (fun _ => False) w4 w7 := Keeps.grown (unhide HV6) q2 (fun k hk => Or.inr ((unhide OW6).lt k hk).1)
                  obtain ⟨t1, t2⟩ := tSt_new (unhide O3).st hk7 q1
                  exact ((unhide O3).call t1 t2).less (T _ _) (by simp)
                have sl2 := unhide SL2
                have b1 : k + 1 + (rs.length - k) ≤ maxLen := by unfold maxLen; omega
                have b2 : (k + 1 + (rs.length - k)) * 32 ≤ 140737488355328 := by omega
                clear SL1 SC1 SR KR O3 f4
                go_wp2_with (at_builtin; refine wpList_append_src rfl (.tmp 68) (.tmp 71) 55 rfl w4.heap.size 24 i0 _ 4 32 Try.underlying55 hi0 hz0 hz1 hz2 rfl (by decide) v2 (k + 1) _ rfl (unhide OW6) ao2 (rs.length - k) (cap - k) (flatR (rs.drop k)) rfl (unhide SC2).1 (by rw [flatR_len, dk]) ((unhide SC2).2 w6 (unhide HV6)) (flatR_one _) b1 b2 (unhide HV6).size ?_; intro v3 w8 q1 q2; have O7 := unhide FINI v3 w8 q1 q2; clear q1 q2 FINI)
                have hLN := unhide HLE
                subst hLN
                exact ⟨⟨i + 1, by omega, congrArg (Value.int .i64) (by omega), by rw [unhide HN]; exact unhide O7⟩, by simp [intOf]; omega⟩
            · skip
              go_simp
              have HV1 : Hid (Keeps (fun _ => False) w4 (V.alloc (.cells (rv r) 24))) := (unhide HV).alloc _
              refine hK.out _ _ (unhide SR _ (unhide HV1)) (fun hNew => ?_)
              have NBq : Hid ((V.alloc (.cells (rv r) 24)).heap[V.heap.size]? = some (.cells (rv r) 24 (0, 0))) := heap_new V _
              clear HV
              have HV := HV1
              clear HV1
              try (have OW1 := hide ((unhide OWa).alloc (.cells (rv r) 24)); clear OWa; have OWa := OW1; clear OW1)
              try (have OW1 := hide ((unhide OWp).alloc (.cells (rv r) 24)); clear OWp; have OWp := OW1; clear OW1)
              obtain ⟨nb, hnb⟩ : ∃ nb, nb = V.heap.size := ⟨_, rfl⟩
              rw [← hnb] at NBq ⊢
              clear hnb
              obtain ⟨V, hV⟩ : ∃ V' : World, V' = V.alloc (.cells (rv r) 24) := ⟨_, rfl⟩
              rw [← hV] at NBq HV hNew ⊢
              try rw [← hV] at OWa
              try rw [← hV] at OWp
              clear hV
              clear hK K hHeld
              have hHeld := hNew
              clear hNew
              try simp only [Act.put, List.setIfInBounds_toArray]
              refine wpAnyH_ready (rs := [0]) (by kernel_rfl) (by simp) ?_
              refine AllReadyH.cons rfl (fun K hK => ?_) AllReadyH.nil
              go_simp
              have HV1 : Hid (Keeps (fun _ => False) w4 (V.alloc (.cells #[] 24))) := (unhide HV).alloc _
              refine hK.out _ _ (unhide SR _ (unhide HV1)) (fun hNew => ?_)
              have OWa : Hid ((V.alloc (.cells #[] 24)).ownsRow w4.heap.size 24 4 (.slice (some ⟨V.heap.size, 0, none⟩) 0 0) 0 []) := World.ownsRow_lit (base := w4.heap.size) (e := 24) (size := 4) V #[] 0 (unhide HV).size (by decide) rfl
              have HEX : Hid (w4.heap.size ≤ V.heap.size) := (unhide HV).size
              clear HV
              have HV := HV1
              clear HV1
              try (have NB1 := hide ((Below.heap_alloc V (.cells #[] 24) nb (lt_of_block (unhide NBq))).trans (unhide NBq)); clear NBq; have NBq := NB1; clear NB1)
              obtain ⟨E, hE⟩ : ∃ E, E = V.heap.size := ⟨_, rfl⟩
              rw [← hE] at OWa HEX ⊢
              clear hE
              obtain ⟨V, hV⟩ : ∃ V' : World, V' = V.alloc (.cells #[] 24) := ⟨_, rfl⟩
              rw [← hV] at OWa HV hNew ⊢
              try rw [← hV] at NBq
              clear hV
              clear hK K hHeld
              have hHeld := hNew
              clear hNew
              try simp only [Act.put, List.setIfInBounds_toArray]
              refine wpAnyH_ready (rs := [4]) (by kernel_rfl) (by simp) ?_
              refine AllReadyH.cons rfl (fun K hK => ?_) AllReadyH.nil
              refine (if_pos (by rfl)).mpr ?_
              obtain ⟨i0, hi0, hz0, hz1, hz2⟩ := info_parts info_rec
              refine wp_append_src (.tmp 60) (.tmp 63) 55 rfl w4.heap.size 24 i0 _ 4 32 Try.underlying55 hi0 hz0 hz1 hz2 rfl (by decide) (.slice (some ⟨E, 0, none⟩) 0 0) 0 [] rfl (unhide OWa) ao1 k cap (flatR (rs.take k)) rfl (unhide SC1).1 (by rw [flatR_len, tk]) ((unhide SC1).2 V (unhide HV)) (flatR_one _) (by unfold maxLen; omega) (by omega) (unhide HV).size ?_
              intro v1 w5 hown hgr hnil
              rw [Nat.zero_add, List.nil_append] at hown
              have OWp := hide hown
              have HV1 : Hid (Keeps (fun _ => False) w4 w5) := Keeps.grown (unhide HV) hgr (fun k hk => by simp [Value.ownBlock] at hk; right; have := unhide HEX; omega)
              try (have NB1 := hide ((hgr.block nb (lt_of_block (unhide NBq)) (fun e => own_neR (unhide OWa) (unhide NBq) (by simpa [Value.ownBlock] using e))).trans (unhide NBq)); clear NBq; have NBq := NB1; clear NB1)
              refine hK.out _ _ (unhide SR _ (unhide HV1)) (fun hNew => ?_)
              clear HV OWa hown hgr hnil hi0 hz0 hz1 hz2 i0
              have HV := HV1
              clear HV1
              obtain ⟨V, hV⟩ : ∃ V' : World, V' = w5 := ⟨_, rfl⟩
              rw [← hV] at OWp HV hNew ⊢
              try rw [← hV] at NBq
              clear hV
              clear hK K hHeld
              have hHeld := hNew
              clear hNew
              try simp only [Act.put, List.setIfInBounds_toArray]
              refine wpAnyH_ready (rs := [7]) (by kernel_rfl) (by simp) ?_
              refine AllReadyH.cons rfl (fun K hK => ?_) AllReadyH.nil
              refine (if_pos (by rfl)).mpr ?_
              obtain ⟨i0, hi0, hz0, hz1, hz2⟩ := info_parts info_rec
              refine wp_append_own _ (.tmp 64) (.tmp 66) 55 rfl w4.heap.size 24 i0 _ 4 32 Try.underlying55 hi0 hz0 hz1 hz2 rfl (by decide) v1 k (flatR (rs.take k)) rfl (unhide OWp) ⟨nb, 0, none⟩ 1 1 (rv r).toList rfl rfl (fun j u hj => by rw [Addr.add_mid, Nat.zero_add, cell_of_block (unhide NBq)]; rw [Array.getElem?_toList] at hj; exact hj) (fun x hx => flatR_one [r] x (by simp [flatR]; simpa using hx)) (by unfold maxLen; omega) (by omega) (unhide HV).size ?_
              intro v2 w6 hown hgr hnil
              have HV6 : Hid (Keeps (fun _ => False) w4 w6) := Keeps.grown (unhide HV) hgr (fun k hk => by
                right
                exact ((unhide OWp).lt k hk).1)
              have OW6 := hide hown
              refine hK.out _ _ (unhide SR _ (unhide HV6)) (fun hNew => ?_)
              clear hown hgr hnil HV OWp NBq
              clear hK K hHeld
              have hHeld := hNew
              clear hNew
              try simp only [Act.put, List.setIfInBounds_toArray]
              refine take_at 8 13 (v := ?_) rfl rfl (by kernel_rfl) (by kernel_rfl) (by kernel_rfl) (Or.inl ⟨by rfl, ?_⟩) hHeld ?_
              rotate_left
              · intro w hSw; go_simp; with_reducible rfl
              simp only [Act.put, List.setIfInBounds_toArray, List.set_cons_zero, List.set_cons_succ]
              refine wpAnyH_done (by kernel_rfl) ?_ _
              refine NoPanic.normal ?_
              clear hHeld
              have FINI : Hid (∀ v3 w7, w7.ownsRow w4.heap.size 24 4 v3 (k + 1 + (rs.length - k)) ((flatR (rs.take k) ++ (rv r).toList) ++ flatR (rs.drop k)) → w6.grownBy w7 v2.ownBlock → Hid (Held W (TSt W b y B A (RecSt W.heap.size v3 (insR rs r))) w w7 G [])) := fun v3 w7 q1 q2 => by
                have e1 : flatR (insR rs r) = (flatR (rs.take k) ++ (rv r).toList) ++ flatR (rs.drop k) := by
                  unfold insR
                  rw [← unhide HK, flatR_append, List.append_assoc]
                  rfl
                have e2 : (insR rs r).length = k + 1 + (rs.length - k) := by rw [insR_len]; omega
                rw [← e1, ← e2] at q1
                have hk7 : Keeps (fun _ => False) w4 w7 := Keeps.grown (unhide HV6) q2 (fun k hk => Or.inr ((unhide OW6).lt k hk).1)
                obtain ⟨t1, t2⟩ := tSt_new (unhide O3).st hk7 q1
                exact ((unhide O3).call t1 t2).less (T _ _) (by simp)
              have sl2 := unhide SL2
              have b1 : k + 1 + (rs.length - k) ≤ maxLen := by unfold maxLen; omega
              have b2 : (k + 1 + (rs.length - k)) * 32 ≤ 140737488355328 := by omega
              clear SL1 SC1 SR KR O3 f4
              go_wp2_with (at_builtin; refine wpList_append_src rfl (.tmp 68) (.tmp 71) 55 rfl w4.heap.size 24 i0 _ 4 32 Try.underlying55 hi0 hz0 hz1 hz2 rfl (by decide) v2 (k + 1) _ rfl (unhide OW6) ao2 (rs.length - k) (cap - k) (flatR (rs.drop k)) rfl (unhide SC2).1 (by rw [flatR_len, dk]) ((unhide SC2).2 w6 (unhide HV6)) (flatR_one _) b1 b2 (unhide HV6).size ?_; intro v3 w8 q1 q2; have O7 := unhide FINI v3 w8 q1 q2; clear q1 q2 FINI)
              have hLN := unhide HLE
              subst hLN
              exact ⟨⟨i + 1, by omega, congrArg (Value.int .i64) (by omega), by rw [unhide HN]; exact unhide O7⟩, by simp [intOf]; omega⟩
          · obtain ⟨k, rfl⟩ : ∃ k', k = k' + 1 := ⟨k - 1, by omega⟩
            obtain ⟨g, hg, -, hr⟩ := unhide HAT k (by omega)
            have c1 : w4.cell? ⟨g, k * 4, none⟩ = some (.int .i64 (rs.getD k zr).q) := hr 0 _ rfl
            have c2 : w4.cell? ⟨L, 0, none⟩ = some (.int .i64 r.q) := by rw [cell_of_block (unhide KR)]; rfl
            have HU : Hid (insK (fun j => (rs.getD j zr).q) r.q (k + 1) = if (rs.getD k zr).q > r.q then insK (fun j => (rs.getD j zr).q) r.q k else k + 1) := rfl
            have d1 : ∀ j, ((w4.drewN m).drewN j).cell? ⟨g, k * 4, none⟩ = some (.int .i64 (rs.getD k zr).q) := fun j => c1
            have d2 : ∀ j, ((w4.drewN m).drewN j).cell? ⟨L, 0, none⟩ = some (.int .i64 r.q) := fun j => c2
            subst hg
            clear hr c1 c2
            by_cases hgt : (rs.getD k zr).q > r.q
            · have HK : Hid (insK (fun j => (rs.getD j zr).q) r.q k = insK (fun j => (rs.getD j zr).q) r.q rs.length) := by
                have h1 := unhide HU
                rw [if_pos hgt, unhide HIK] at h1
                exact h1.symm
              clear HU HIK
              have hgt2 : r.q < (rs.getD k zr).q := hgt
              generalize (rs.getD k zr).q = qk at *
              have hd : decide ((0 : Int) < ((k + 1 : Nat) : Int)) = true := decide_eq_true (by omega)
              have hd2 : decide (r.q < qk) = true := by simp; omega
              generalize w4.drewN m = w7 at *
              go_wp2_with fail
              go_quiet (fail)
              go_wp2_with fail
              exact ⟨⟨k, by omega, rfl, unhide HK, unhide DN _⟩, by simp [intOf]⟩
            · have HK : Hid (k + 1 = insK (fun j => (rs.getD j zr).q) r.q rs.length) := by
                have h1 := unhide HU
                rw [if_neg hgt, unhide HIK] at h1
                exact h1.symm
              clear HU HIK
              generalize (rs.getD k zr).q = qk at *
              have hd : decide ((0 : Int) < ((k + 1 : Nat) : Int)) = true := decide_eq_true (by omega)
              have hd2 : decide (r.q < qk) = false := by simp; omega
              generalize w4.drewN m = w7 at *
              go_wp2_with fail
              go_quiet (fail)
              go_wp2_with fail
              clear d1 d2 hd hd2
              rw [show ((k : Int) + 1) = ((k + 1 : Nat) : Int) by omega]
              generalize k + 1 = k at *
              obtain ⟨m', e7⟩ := unhide DN nq
              rw [e7]
              clear e7 HV DN HAT HW
              obtain ⟨ao1, sl1, sc1⟩ := src_take (unhide O3).st.choose_spec.2.1.2 k hk
              obtain ⟨ao2, sl2, sc2⟩ := src_drop (unhide O3).st.choose_spec.2.1.2 k hk
              have SL1 := hide sl1
              have SL2 := hide sl2
              have SC1 := hide sc1
              have SC2 := hide sc2
              have SR : Hid (∀ V, Keeps (fun _ => False) w4 V → V.rangeAt L 0 (rv r).toList) := fun V hV j u hj => hV.cellOf (by rw [Nat.zero_add, cell_of_block (unhide KR)]; rw [Array.getElem?_toList] at hj; exact hj) id
              clear sl1 sl2 sc1 sc2
              refine wp_region_noPanic ?_
              refine wp_region_held_drew (S := fun w' => w'.rangeAt L 0 (rv r).toList) (by kernel_rfl) (unhide SR _ (keeps_drewN w4 m').drew) (fun hHeld => ?_)
              have HV : Hid (Keeps (fun _ => False) w4 (w4.drewN m').drew) := (keeps_drewN w4 m').drew
              refine take_at 1 61 (v := ?_) rfl rfl (by kernel_rfl) (by kernel_rfl) (by kernel_rfl) (Or.inl ⟨by rfl, ?_⟩) hHeld ?_
              rotate_left
              · intro w hSw; go_simp; with_reducible rfl
              simp only [Act.put, List.setIfInBounds_toArray, List.set_cons_zero, List.set_cons_succ]
              refine take_at 2 62 (v := ?_) rfl rfl (by kernel_rfl) (by kernel_rfl) (by kernel_rfl) (Or.inl ⟨by rfl, ?_⟩) hHeld ?_
              rotate_left
              · intro w hSw; go_simp; with_reducible rfl
              simp only [Act.put, List.setIfInBounds_toArray, List.set_cons_zero, List.set_cons_succ]
              refine take_at 3 63 rfl rfl (by kernel_rfl) (by kernel_rfl) (by kernel_rfl) (yieldsIf_slice_h (unhide SL1) (by rfl) (.tmp 61) (.tmp 62) rfl rfl rfl) hHeld ?_
              simp only [Act.put, List.setIfInBounds_toArray, List.set_cons_zero, List.set_cons_succ]
              refine take_at 5 65 rfl rfl (by kernel_rfl) (by kernel_rfl) (by kernel_rfl) (yieldsIf_load_mid (by rfl) 24 (.tmp 10) rfl L 0 rfl (rv r).toList _ (fun w h => h) Try.underlying24 rfl size4R) hHeld ?_
              simp only [Act.put, List.setIfInBounds_toArray, List.set_cons_zero, List.set_cons_succ]
              generalize (w4.drewN m').drew = V at *
              have hB : rs.length ≤ 32 := by omega
              have tk : (rs.take k).length = k := by rw [List.length_take]; omega
              have dk : (rs.drop k).length = rs.length - k := by rw [List.length_drop]
              have z4 := rv_size r
              have f4 : Array.foldl (fun (cs : Array Value) (x : Value × Nat) => cs.setIfInBounds x.snd x.fst) #[.int .i64 0, .int .i64 0, .int .i64 0, .int .u64 0] (rv r).zipIdx 0 4 = rv r := by rfl
              refine wpAnyH_ready (rs := [0, 6]) (by kernel_rfl) (by simp) ?_
              refine AllReadyH.cons rfl (fun K hK => ?_) (AllReadyH.cons rfl (fun K hK => ?_) AllReadyH.nil)
              · skip
                go_simp
                have HV1 : Hid (Keeps (fun _ => False) w4 (V.alloc (.cells #[] 24))) := (unhide HV).alloc _
                refine hK.out _ _ (unhide SR _ (unhide HV1)) (fun hNew => ?_)
                have OWa : Hid ((V.alloc (.cells #[] 24)).ownsRow w4.heap.size 24 4 (.slice (some ⟨V.heap.size, 0, none⟩) 0 0) 0 []) := World.ownsRow_lit (base := w4.heap.size) (e := 24) (size := 4) V #[] 0 (unhide HV).size (by decide) rfl
                have HEX : Hid (w4.heap.size ≤ V.heap.size) := (unhide HV).size
                clear HV
                have HV := HV1
                clear HV1
                try (have NB1 := hide ((Below.heap_alloc V (.cells #[] 24) nb (lt_of_block (unhide NBq))).trans (unhide NBq)); clear NBq; have NBq := NB1; clear NB1)
                obtain ⟨E, hE⟩ : ∃ E, E = V.heap.size := ⟨_, rfl⟩
                rw [← hE] at OWa HEX ⊢
                clear hE
                obtain ⟨V, hV⟩ : ∃ V' : World, V' = V.alloc (.cells #[] 24) := ⟨_, rfl⟩
                rw [← hV] at OWa HV hNew ⊢
                try rw [← hV] at NBq
                clear hV
                clear hK K hHeld
                have hHeld := hNew
                clear hNew
                try simp only [Act.put, List.setIfInBounds_toArray]
                refine wpAnyH_ready (rs := [4, 6]) (by kernel_rfl) (by simp) ?_
                refine AllReadyH.cons rfl (fun K hK => ?_) (AllReadyH.cons rfl (fun K hK => ?_) AllReadyH.nil)
                · skip
                  refine (if_pos (by rfl)).mpr ?_
                  obtain ⟨i0, hi0, hz0, hz1, hz2⟩ := info_parts info_rec
                  refine wp_append_src (.tmp 60) (.tmp 63) 55 rfl w4.heap.size 24 i0 _ 4 32 Try.underlying55 hi0 hz0 hz1 hz2 rfl (by decide) (.slice (some ⟨E, 0, none⟩) 0 0) 0 [] rfl (unhide OWa) ao1 k cap (flatR (rs.take k)) rfl (unhide SC1).1 (by rw [flatR_len, tk]) ((unhide SC1).2 V (unhide HV)) (flatR_one _) (by unfold maxLen; omega) (by omega) (unhide HV).size ?_
                  intro v1 w5 hown hgr hnil
                  rw [Nat.zero_add, List.nil_append] at hown
                  have OWp := hide hown
                  have HV1 : Hid (Keeps (fun _ => False) w4 w5) := Keeps.grown (unhide HV) hgr (fun k hk => by simp [Value.ownBlock] at hk; right; have := unhide HEX; omega)
                  try (have NB1 := hide ((hgr.block nb (lt_of_block (unhide NBq)) (fun e => own_neR (unhide OWa) (unhide NBq) (by simpa [Value.ownBlock] using e))).trans (unhide NBq)); clear NBq; have NBq := NB1; clear NB1)
                  refine hK.out _ _ (unhide SR _ (unhide HV1)) (fun hNew => ?_)
                  clear HV OWa hown hgr hnil hi0 hz0 hz1 hz2 i0
                  have HV := HV1
                  clear HV1
                  obtain ⟨V, hV⟩ : ∃ V' : World, V' = w5 := ⟨_, rfl⟩
                  rw [← hV] at OWp HV hNew ⊢
                  try rw [← hV] at NBq
                  clear hV
                  clear hK K hHeld
                  have hHeld := hNew
                  clear hNew
                  try simp only [Act.put, List.setIfInBounds_toArray]
                  refine wpAnyH_ready (rs := [6]) (by kernel_rfl) (by simp) ?_
                  refine AllReadyH.cons rfl (fun K hK => ?_) AllReadyH.nil
                  go_simp
                  have HV1 : Hid (Keeps (fun _ => False) w4 (V.alloc (.cells (rv r) 24))) := (unhide HV).alloc _
                  refine hK.out _ _ (unhide SR _ (unhide HV1)) (fun hNew => ?_)
                  have NBq : Hid ((V.alloc (.cells (rv r) 24)).heap[V.heap.size]? = some (.cells (rv r) 24 (0, 0))) := heap_new V _
                  clear HV
                  have HV := HV1
                  clear HV1
                  try (have OW1 := hide ((unhide OWa).alloc (.cells (rv r) 24)); clear OWa; have OWa := OW1; clear OW1)
                  try (have OW1 := hide ((unhide OWp).alloc (.cells (rv r) 24)); clear OWp; have OWp := OW1; clear OW1)
                  obtain ⟨nb, hnb⟩ : ∃ nb, nb = V.heap.size := ⟨_, rfl⟩
                  rw [← hnb] at NBq ⊢
                  clear hnb
                  obtain ⟨V, hV⟩ : ∃ V' : World, V' = V.alloc (.cells (rv r) 24) := ⟨_, rfl⟩
                  rw [← hV] at NBq HV hNew ⊢
                  try rw [← hV] at OWa
                  try rw [← hV] at OWp
                  clear hV
                  clear hK K hHeld
                  have hHeld := hNew
                  clear hNew
                  try simp only [Act.put, List.setIfInBounds_toArray]
                  refine wpAnyH_ready (rs := [7]) (by kernel_rfl) (by simp) ?_
                  refine AllReadyH.cons rfl (fun K hK => ?_) AllReadyH.nil
                  refine (if_pos (by rfl)).mpr ?_
                  obtain ⟨i0, hi0, hz0, hz1, hz2⟩ := info_parts info_rec
                  refine wp_append_own _ (.tmp 64) (.tmp 66) 55 rfl w4.heap.size 24 i0 _ 4 32 Try.underlying55 hi0 hz0 hz1 hz2 rfl (by decide) v1 k (flatR (rs.take k)) rfl (unhide OWp) ⟨nb, 0, none⟩ 1 1 (rv r).toList rfl rfl (fun j u hj => by rw [Addr.add_mid, Nat.zero_add, cell_of_block (unhide NBq)]; rw [Array.getElem?_toList] at hj; exact hj) (fun x hx => flatR_one [r] x (by simp [flatR]; simpa using hx)) (by unfold maxLen; omega) (by omega) (unhide HV).size ?_
                  intro v2 w6 hown hgr hnil
                  have HV6 : Hid (Keeps (fun _ => False) w4 w6) := Keeps.grown (unhide HV) hgr (fun k hk => by
                    right
                    exact ((unhide OWp).lt k hk).1)
                  have OW6 := hide hown
                  refine hK.out _ _ (unhide SR _ (unhide HV6)) (fun hNew => ?_)
                  clear hown hgr hnil HV OWp NBq
                  clear hK K hHeld
                  have hHeld := hNew
                  clear hNew
                  try simp only [Act.put, List.setIfInBounds_toArray]
                  refine take_at 8 13 (v := ?_) rfl rfl (by kernel_rfl) (by kernel_rfl) (by kernel_rfl) (Or.inl ⟨by rfl, ?_⟩) hHeld ?_
                  rotate_left
                  · intro w hSw; go_simp; with_reducible rfl
                  simp only [Act.put, List.setIfInBounds_toArray, List.set_cons_zero, List.set_cons_succ]
                  refine wpAnyH_done (by kernel_rfl) ?_ _
                  refine NoPanic.normal ?_
                  clear hHeld
                  have FINI : Hid (∀ v3 w7, w7.ownsRow w4.heap.size 24 4 v3 (k + 1 + (rs.length - k)) ((flatR (rs.take k) ++ (rv r).toList) ++ flatR (rs.drop k)) → w6.grownBy w7 v2.ownBlock → Hid (Held W (TSt W b y B A (RecSt W.heap.size v3 (insR rs r))) w w7 G [])) := fun v3 w7 q1 q2 => by
                    have e1 : flatR (insR rs r) = (flatR (rs.take k) ++ (rv r).toList) ++ flatR (rs.drop k) := by
                      unfold insR
                      rw [← unhide HK, flatR_append, List.append_assoc]
                      rfl
                    have e2 : (insR rs r).length = k + 1 + (rs.length - k) := by rw [insR_len]; omega
                    rw [← e1, ← e2] at q1
                    have hk7 : Keeps (fun _ => False) w4 w7 := Keeps.grown (unhide HV6) q2 (fun k hk => Or.inr ((unhide OW6).lt k hk).1)
                    obtain ⟨t1, t2⟩ := tSt_new (unhide O3).st hk7 q1
                    exact ((unhide O3).call t1 t2).less (T _ _) (by simp)
                  have sl2 := unhide SL2
                  have b1 : k + 1 + (rs.length - k) ≤ maxLen := by unfold maxLen; omega
                  have b2 : (k + 1 + (rs.length - k)) * 32 ≤ 140737488355328 := by omega
                  clear SL1 SC1 SR KR O3 f4
                  go_wp2_with (at_builtin; refine wpList_append_src rfl (.tmp 68) (.tmp 71) 55 rfl w4.heap.size 24 i0 _ 4 32 Try.underlying55 hi0 hz0 hz1 hz2 rfl (by decide) v2 (k + 1) _ rfl (unhide OW6) ao2 (rs.length - k) (cap - k) (flatR (rs.drop k)) rfl (unhide SC2).1 (by rw [flatR_len, dk]) ((unhide SC2).2 w6 (unhide HV6)) (flatR_one _) b1 b2 (unhide HV6).size ?_; intro v3 w8 q1 q2; have O7 := unhide FINI v3 w8 q1 q2; clear q1 q2 FINI)
                  have hLN := unhide HLE
                  subst hLN
                  exact ⟨⟨i + 1, by omega, congrArg (Value.int .i64) (by omega), by rw [unhide HN]; exact unhide O7⟩, by simp [intOf]; omega⟩
                · skip
                  go_simp
                  have HV1 : Hid (Keeps (fun _ => False) w4 (V.alloc (.cells (rv r) 24))) := (unhide HV).alloc _
                  refine hK.out _ _ (unhide SR _ (unhide HV1)) (fun hNew => ?_)
                  have NBq : Hid ((V.alloc (.cells (rv r) 24)).heap[V.heap.size]? = some (.cells (rv r) 24 (0, 0))) := heap_new V _
                  clear HV
                  have HV := HV1
                  clear HV1
                  try (have OW1 := hide ((unhide OWa).alloc (.cells (rv r) 24)); clear OWa; have OWa := OW1; clear OW1)
                  try (have OW1 := hide ((unhide OWp).alloc (.cells (rv r) 24)); clear OWp; have OWp := OW1; clear OW1)
                  obtain ⟨nb, hnb⟩ : ∃ nb, nb = V.heap.size := ⟨_, rfl⟩
                  rw [← hnb] at NBq ⊢
                  clear hnb
                  obtain ⟨V, hV⟩ : ∃ V' : World, V' = V.alloc (.cells (rv r) 24) := ⟨_, rfl⟩
                  rw [← hV] at NBq HV hNew ⊢
                  try rw [← hV] at OWa
                  try rw [← hV] at OWp
                  clear hV
                  clear hK K hHeld
                  have hHeld := hNew
                  clear hNew
                  try simp only [Act.put, List.setIfInBounds_toArray]
                  refine wpAnyH_ready (rs := [4]) (by kernel_rfl) (by simp) ?_
                  refine AllReadyH.cons rfl (fun K hK => ?_) AllReadyH.nil
                  refine (if_pos (by rfl)).mpr ?_
                  obtain ⟨i0, hi0, hz0, hz1, hz2⟩ := info_parts info_rec
                  refine wp_append_src (.tmp 60) (.tmp 63) 55 rfl w4.heap.size 24 i0 _ 4 32 Try.underlying55 hi0 hz0 hz1 hz2 rfl (by decide) (.slice (some ⟨E, 0, none⟩) 0 0) 0 [] rfl (unhide OWa) ao1 k cap (flatR (rs.take k)) rfl (unhide SC1).1 (by rw [flatR_len, tk]) ((unhide SC1).2 V (unhide HV)) (flatR_one _) (by unfold maxLen; omega) (by omega) (unhide HV).size ?_
                  intro v1 w5 hown hgr hnil
                  rw [Nat.zero_add, List.nil_append] at hown
                  have OWp := hide hown
                  have HV1 : Hid (Keeps (fun _ => False) w4 w5) := Keeps.grown (unhide HV) hgr (fun k hk => by simp [Value.ownBlock] at hk; right; have := unhide HEX; omega)
                  try (have NB1 := hide ((hgr.block nb (lt_of_block (unhide NBq)) (fun e => own_neR (unhide OWa) (unhide NBq) (by simpa [Value.ownBlock] using e))).trans (unhide NBq)); clear NBq; have NBq := NB1; clear NB1)
                  refine hK.out _ _ (unhide SR _ (unhide HV1)) (fun hNew => ?_)
                  clear HV OWa hown hgr hnil hi0 hz0 hz1 hz2 i0
                  have HV := HV1
                  clear HV1
                  obtain ⟨V, hV⟩ : ∃ V' : World, V' = w5 := ⟨_, rfl⟩
                  rw [← hV] at OWp HV hNew ⊢
                  try rw [← hV] at NBq
                  clear hV
                  clear hK K hHeld
                  have hHeld := hNew
                  clear hNew
                  try simp only [Act.put, List.setIfInBounds_toArray]
                  refine wpAnyH_ready (rs := [7]) (by kernel_rfl) (by simp) ?_
                  refine AllReadyH.cons rfl (fun K hK => ?_) AllReadyH.nil
                  refine (if_pos (by rfl)).mpr ?_
                  obtain ⟨i0, hi0, hz0, hz1, hz2⟩ := info_parts info_rec
                  refine wp_append_own _ (.tmp 64) (.tmp 66) 55 rfl w4.heap.size 24 i0 _ 4 32 Try.underlying55 hi0 hz0 hz1 hz2 rfl (by decide) v1 k (flatR (rs.take k)) rfl (unhide OWp) ⟨nb, 0, none⟩ 1 1 (rv r).toList rfl rfl (fun j u hj => by rw [Addr.add_mid, Nat.zero_add, cell_of_block (unhide NBq)]; rw [Array.getElem?_toList] at hj; exact hj) (fun x hx => flatR_one [r] x (by simp [flatR]; simpa using hx)) (by unfold maxLen; omega) (by omega) (unhide HV).size ?_
                  intro v2 w6 hown hgr hnil
                  have HV6 : Hid (Keeps (fun _ => False) w4 w6) := Keeps.grown (unhide HV) hgr (fun k hk => by
                    right
                    exact ((unhide OWp).lt k hk).1)
                  have OW6 := hide hown
                  refine hK.out _ _ (unhide SR _ (unhide HV6)) (fun hNew => ?_)
                  clear hown hgr hnil HV OWp NBq
                  clear hK K hHeld
                  have hHeld := hNew
                  clear hNew
                  try simp only [Act.put, List.setIfInBounds_toArray]
                  refine take_at 8 13 (v := ?_) rfl rfl (by kernel_rfl) (by kernel_rfl) (by kernel_rfl) (Or.inl ⟨by rfl, ?_⟩) hHeld ?_
                  rotate_left
                  · intro w hSw; go_simp; with_reducible rfl
                  simp only [Act.put, List.setIfInBounds_toArray, List.set_cons_zero, List.set_cons_succ]
                  refine wpAnyH_done (by kernel_rfl) ?_ _
                  refine NoPanic.normal ?_
                  clear hHeld
                  have FINI : Hid (∀ v3 w7, w7.ownsRow w4.heap.size 24 4 v3 (k + 1 + (rs.length - k)) ((flatR (rs.take k) ++ (rv r).toList) ++ flatR (rs.drop k)) → w6.grownBy w7 v2.ownBlock → Hid (Held W (TSt W b y B A (RecSt W.heap.size v3 (insR rs r))) w w7 G [])) := fun v3 w7 q1 q2 => by
                    have e1 : flatR (insR rs r) = (flatR (rs.take k) ++ (rv r).toList) ++ flatR (rs.drop k) := by
                      unfold insR
                      rw [← unhide HK, flatR_append, List.append_assoc]
                      rfl
                    have e2 : (insR rs r).length = k + 1 + (rs.length - k) := by rw [insR_len]; omega
                    rw [← e1, ← e2] at q1
                    have hk7 : Keeps (fun _ => False) w4 w7 := Keeps.grown (unhide HV6) q2 (fun k hk => Or.inr ((unhide OW6).lt k hk).1)
                    obtain ⟨t1, t2⟩ := tSt_new (unhide O3).st hk7 q1
                    exact ((unhide O3).call t1 t2).less (T _ _) (by simp)
                  have sl2 := unhide SL2
                  have b1 : k + 1 + (rs.length - k) ≤ maxLen := by unfold maxLen; omega
                  have b2 : (k + 1 + (rs.length - k)) * 32 ≤ 140737488355328 := by omega
                  clear SL1 SC1 SR KR O3 f4
                  go_wp2_with (at_builtin; refine wpList_append_src rfl (.tmp 68) (.tmp 71) 55 rfl w4.heap.size 24 i0 _ 4 32 Try.underlying55 hi0 hz0 hz1 hz2 rfl (by decide) v2 (k + 1) _ rfl (unhide OW6) ao2 (rs.length - k) (cap - k) (flatR (rs.drop k)) rfl (unhide SC2).1 (by rw [flatR_len, dk]) ((unhide SC2).2 w6 (unhide HV6)) (flatR_one _) b1 b2 (unhide HV6).size ?_; intro v3 w8 q1 q2; have O7 := unhide FINI v3 w8 q1 q2; clear q1 q2 FINI)
                  have hLN := unhide HLE
                  subst hLN
                  exact ⟨⟨i + 1, by omega, congrArg (Value.int .i64) (by omega), by rw [unhide HN]; exact unhide O7⟩, by simp [intOf]; omega⟩
              · skip
                go_simp
                have HV1 : Hid (Keeps (fun _ => False) w4 (V.alloc (.cells (rv r) 24))) := (unhide HV).alloc _
                refine hK.out _ _ (unhide SR _ (unhide HV1)) (fun hNew => ?_)
                have NBq : Hid ((V.alloc (.cells (rv r) 24)).heap[V.heap.size]? = some (.cells (rv r) 24 (0, 0))) := heap_new V _
                clear HV
                have HV := HV1
                clear HV1
                try (have OW1 := hide ((unhide OWa).alloc (.cells (rv r) 24)); clear OWa; have OWa := OW1; clear OW1)
                try (have OW1 := hide ((unhide OWp).alloc (.cells (rv r) 24)); clear OWp; have OWp := OW1; clear OW1)
                obtain ⟨nb, hnb⟩ : ∃ nb, nb = V.heap.size := ⟨_, rfl⟩
                rw [← hnb] at NBq ⊢
                clear hnb
                obtain ⟨V, hV⟩ : ∃ V' : World, V' = V.alloc (.cells (rv r) 24) := ⟨_, rfl⟩
                rw [← hV] at NBq HV hNew ⊢
                try rw [← hV] at OWa
                try rw [← hV] at OWp
                clear hV
                clear hK K hHeld
                have hHeld := hNew
                clear hNew
                try simp only [Act.put, List.setIfInBounds_toArray]
                refine wpAnyH_ready (rs := [0]) (by kernel_rfl) (by simp) ?_
                refine AllReadyH.cons rfl (fun K hK => ?_) AllReadyH.nil
                go_simp
                have HV1 : Hid (Keeps (fun _ => False) w4 (V.alloc (.cells #[] 24))) := (unhide HV).alloc _
                refine hK.out _ _ (unhide SR _ (unhide HV1)) (fun hNew => ?_)
                have OWa : Hid ((V.alloc (.cells #[] 24)).ownsRow w4.heap.size 24 4 (.slice (some ⟨V.heap.size, 0, none⟩) 0 0) 0 []) := World.ownsRow_lit (base := w4.heap.size) (e := 24) (size := 4) V #[] 0 (unhide HV).size (by decide) rfl
                have HEX : Hid (w4.heap.size ≤ V.heap.size) := (unhide HV).size
                clear HV
                have HV := HV1
                clear HV1
                try (have NB1 := hide ((Below.heap_alloc V (.cells #[] 24) nb (lt_of_block (unhide NBq))).trans (unhide NBq)); clear NBq; have NBq := NB1; clear NB1)
                obtain ⟨E, hE⟩ : ∃ E, E = V.heap.size := ⟨_, rfl⟩
                rw [← hE] at OWa HEX ⊢
                clear hE
                obtain ⟨V, hV⟩ : ∃ V' : World, V' = V.alloc (.cells #[] 24) := ⟨_, rfl⟩
                rw [← hV] at OWa HV hNew ⊢
                try rw [← hV] at NBq
                clear hV
                clear hK K hHeld
                have hHeld := hNew
                clear hNew
                try simp only [Act.put, List.setIfInBounds_toArray]
                refine wpAnyH_ready (rs := [4]) (by kernel_rfl) (by simp) ?_
                refine AllReadyH.cons rfl (fun K hK => ?_) AllReadyH.nil
                refine (if_pos (by rfl)).mpr ?_
                obtain ⟨i0, hi0, hz0, hz1, hz2⟩ := info_parts info_rec
                refine wp_append_src (.tmp 60) (.tmp 63) 55 rfl w4.heap.size 24 i0 _ 4 32 Try.underlying55 hi0 hz0 hz1 hz2 rfl (by decide) (.slice (some ⟨E, 0, none⟩) 0 0) 0 [] rfl (unhide OWa) ao1 k cap (flatR (rs.take k)) rfl (unhide SC1).1 (by rw [flatR_len, tk]) ((unhide SC1).2 V (unhide HV)) (flatR_one _) (by unfold maxLen; omega) (by omega) (unhide HV).size ?_
                intro v1 w5 hown hgr hnil
                rw [Nat.zero_add, List.nil_append] at hown
                have OWp := hide hown
                have HV1 : Hid (Keeps (fun _ => False) w4 w5) := Keeps.grown (unhide HV) hgr (fun k hk => by simp [Value.ownBlock] at hk; right; have := unhide HEX; omega)
                try (have NB1 := hide ((hgr.block nb (lt_of_block (unhide NBq)) (fun e => own_neR (unhide OWa) (unhide NBq) (by simpa [Value.ownBlock] using e))).trans (unhide NBq)); clear NBq; have NBq := NB1; clear NB1)
                refine hK.out _ _ (unhide SR _ (unhide HV1)) (fun hNew => ?_)
                clear HV OWa hown hgr hnil hi0 hz0 hz1 hz2 i0
                have HV := HV1
                clear HV1
                obtain ⟨V, hV⟩ : ∃ V' : World, V' = w5 := ⟨_, rfl⟩
                rw [← hV] at OWp HV hNew ⊢
                try rw [← hV] at NBq
                clear hV
                clear hK K hHeld
                have hHeld := hNew
                clear hNew
                try simp only [Act.put, List.setIfInBounds_toArray]
                refine wpAnyH_ready (rs := [7]) (by kernel_rfl) (by simp) ?_
                refine AllReadyH.cons rfl (fun K hK => ?_) AllReadyH.nil
                refine (if_pos (by rfl)).mpr ?_
                obtain ⟨i0, hi0, hz0, hz1, hz2⟩ := info_parts info_rec
                refine wp_append_own _ (.tmp 64) (.tmp 66) 55 rfl w4.heap.size 24 i0 _ 4 32 Try.underlying55 hi0 hz0 hz1 hz2 rfl (by decide) v1 k (flatR (rs.take k)) rfl (unhide OWp) ⟨nb, 0, none⟩ 1 1 (rv r).toList rfl rfl (fun j u hj => by rw [Addr.add_mid, Nat.zero_add, cell_of_block (unhide NBq)]; rw [Array.getElem?_toList] at hj; exact hj) (fun x hx => flatR_one [r] x (by simp [flatR]; simpa using hx)) (by unfold maxLen; omega) (by omega) (unhide HV).size ?_
                intro v2 w6 hown hgr hnil
                have HV6 : Hid (Keeps (fun _ => False) w4 w6) := Keeps.grown (unhide HV) hgr (fun k hk => by
                  right
                  exact ((unhide OWp).lt k hk).1)
                have OW6 := hide hown
                refine hK.out _ _ (unhide SR _ (unhide HV6)) (fun hNew => ?_)
                clear hown hgr hnil HV OWp NBq
                clear hK K hHeld
                have hHeld := hNew
                clear hNew
                try simp only [Act.put, List.setIfInBounds_toArray]
                refine take_at 8 13 (v := ?_) rfl rfl (by kernel_rfl) (by kernel_rfl) (by kernel_rfl) (Or.inl ⟨by rfl, ?_⟩) hHeld ?_
                rotate_left
                · intro w hSw; go_simp; with_reducible rfl
                simp only [Act.put, List.setIfInBounds_toArray, List.set_cons_zero, List.set_cons_succ]
                refine wpAnyH_done (by kernel_rfl) ?_ _
                refine NoPanic.normal ?_
                clear hHeld
                have FINI : Hid (∀ v3 w7, w7.ownsRow w4.heap.size 24 4 v3 (k + 1 + (rs.length - k)) ((flatR (rs.take k) ++ (rv r).toList) ++ flatR (rs.drop k)) → w6.grownBy w7 v2.ownBlock → Hid (Held W (TSt W b y B A (RecSt W.heap.size v3 (insR rs r))) w w7 G [])) := fun v3 w7 q1 q2 => by
                  have e1 : flatR (insR rs r) = (flatR (rs.take k) ++ (rv r).toList) ++ flatR (rs.drop k) := by
                    unfold insR
                    rw [← unhide HK, flatR_append, List.append_assoc]
                    rfl
                  have e2 : (insR rs r).length = k + 1 + (rs.length - k) := by rw [insR_len]; omega
                  rw [← e1, ← e2] at q1
                  have hk7 : Keeps (fun _ => False) w4 w7 := Keeps.grown (unhide HV6) q2 (fun k hk => Or.inr ((unhide OW6).lt k hk).1)
                  obtain ⟨t1, t2⟩ := tSt_new (unhide O3).st hk7 q1
                  exact ((unhide O3).call t1 t2).less (T _ _) (by simp)
                have sl2 := unhide SL2
                have b1 : k + 1 + (rs.length - k) ≤ maxLen := by unfold maxLen; omega
                have b2 : (k + 1 + (rs.length - k)) * 32 ≤ 140737488355328 := by omega
                clear SL1 SC1 SR KR O3 f4
                go_wp2_with (at_builtin; refine wpList_append_src rfl (.tmp 68) (.tmp 71) 55 rfl w4.heap.size 24 i0 _ 4 32 Try.underlying55 hi0 hz0 hz1 hz2 rfl (by decide) v2 (k + 1) _ rfl (unhide OW6) ao2 (rs.length - k) (cap - k) (flatR (rs.drop k)) rfl (unhide SC2).1 (by rw [flatR_len, dk]) ((unhide SC2).2 w6 (unhide HV6)) (flatR_one _) b1 b2 (unhide HV6).size ?_; intro v3 w8 q1 q2; have O7 := unhide FINI v3 w8 q1 q2; clear q1 q2 FINI)
                have hLN := unhide HLE
                subst hLN
                exact ⟨⟨i + 1, by omega, congrArg (Value.int .i64) (by omega), by rw [unhide HN]; exact unhide O7⟩, by simp [intOf]; omega⟩
    · have hz : ¬ ((2 + i : Nat) : Int) < 2 + 4 * (n : Int) := by omega
      have hi4 : i = 4 * n := by omega
      rw [hi4] at HH
      clear hi4 hlt
      go_wp2_with fail
      go_ret2
      obtain ⟨-, q1, q2⟩ := HH.out.done (TSt.stay W b y B A (recSt_loc _ _ _)) (.int .i64 0)
      exact ⟨_, rfl, q1, q2⟩

end Go.Proofs.Ytjidekjeibdbgaa


/-
  The document's Scan for whatever is asked, beside the program's memory; and the statements' same, on rows of the same records.
-/
namespace Go.Proofs.Ytjidekjeibdbgaa
open Go.ChangeShapes Go.WideShapes Go.ChangeAt Go.RowKit Go.Joins Go.Deep
set_option maxRecDepth 100000
set_option linter.unusedVariables false
set_option linter.unusedSimpArgs false

theorem Two.scanR6 {W w : World} {G : Nat → Prop} {b y : Nat} {B A : Mm} (h : Two W w G b y B A) (hok : A.ok 1000) (z : Int) :
    Calls Try.prog 29 #[.pointer (some ⟨y, 0, none⟩), .int .i64 z] w (TScanned W w G b y B A (A.scanV z) (A.scanE z)) := by
  unfold Mm.scanV Mm.scanE
  by_cases hz : isCores z
  · obtain ⟨n, rfl⟩ : ∃ n : Nat, z = (n : Int) := ⟨z.toNat, by have := hz.1; omega⟩
    have h1 : 1 ≤ n := by have := hz.1; omega
    have h8 : n ≤ 8 := by have := hz.2; omega
    cases hon : A.on with
    | true =>
      rw [if_pos ⟨hz, rfl⟩, if_pos hz, if_pos rfl, Int.toNat_natCast]
      exact rscan_on h hok hon n h1 h8
    | false =>
      rw [if_neg (fun h => by simp at h), if_pos hz, if_neg (by simp)]
      exact rscan_off h hok hon n h1 h8
  · rw [if_neg (fun h => hz h.1), if_neg hz]
    exact rscan_bad h z hz

theorem same_rows {w : World} {b1 b2 : Nat} {v1 v2 : Value} {rs : List Rc} (hn : rs.length ≤ 1000) (h1 : w.ownsRow b1 24 4 v1 rs.length (flatR rs)) (h2 : w.ownsRow b2 24 4 v2 rs.length (flatR rs)) :
    Calls Try.prog 30 #[v1, v2] w fun e w' => e = .returned (.bool true) ∧ Keeps (fun _ => False) w w' := by
  obtain ⟨p1, c1, rfl, a1⟩ := owns_open h1
  obtain ⟨p2, c2, rfl, a2⟩ := owns_open h2
  have H1 := hide a1
  have H2 := hide a2
  clear a1 a2 h1 h2
  obtain ⟨n, hnn⟩ : ∃ n, n = rs.length := ⟨_, rfl⟩
  rw [← hnn] at H1 H2 hn ⊢
  clear hnn
  go_enter Try.func30, Try.ntmps30
  go_wp2_with fail
  go_loopw [5] (fun i wr => ∃ k : Nat, k ≤ n ∧ i = .int .i64 k ∧ Keeps (fun _ => False) w wr) (fun i _ => n - (intOf i).toNat)
  case atStart => exact ⟨0, by omega, rfl, Keeps.refl _ _⟩
  case round =>
    obtain ⟨k, hk, rfl, hkp⟩ := hrel
    have HK := hide hkp
    clear hkp
    by_cases hlt : k < n
    · obtain ⟨x, rfl, -, hx⟩ := unhide H1 k hlt
      obtain ⟨y, rfl, -, hy⟩ := unhide H2 k hlt
      have R1 : Hid (wr.rangeAt x (k * 4) (rv (rs.getD k zr)).toList) := rangeAt_keeps hx (unhide HK) id
      have R2 : Hid (wr.rangeAt y (k * 4) (rv (rs.getD k zr)).toList) := rangeAt_keeps hy (unhide HK) id
      clear hx hy
      generalize rs.getD k zr = r at *
      have EQ : Hid (∀ w : World, (Op.equalIn 10000 24 (.agg (rv r).toList.toArray) (.agg (rv r).toList.toArray)).run Try.prog w = .ok true w) := fun w => by
        rw [Array.toArray_toList, equal_rec]; simp
      have s4 : (Try.prog.info? 24).map (·.size) = some (rv r).toList.length := size4R
      have hlt' : (k : Int) < (n : Int) := by omega
      go_wp2_with fail
      refine wp_region_noPanic ?_
      refine wp_region_held_drew (S := fun w' => w'.rangeAt x (k * 4) (rv r).toList ∧ w'.rangeAt y (k * 4) (rv r).toList) (by kernel_rfl) ⟨unhide R1, unhide R2⟩ (fun hHeld => ?_)
      refine take_at 0 17 (v := ?_) rfl rfl (by kernel_rfl) (by kernel_rfl) (by kernel_rfl) (Or.inl ⟨by rfl, ?_⟩) hHeld ?_
      rotate_left
      · intro w hSw; go_simp; with_reducible rfl
      simp only [Act.put, List.setIfInBounds_toArray, List.set_cons_zero, List.set_cons_succ]
      refine take_at 1 18 (v := ?_) rfl rfl (by kernel_rfl) (by kernel_rfl) (by kernel_rfl) (Or.inl ⟨by rfl, ?_⟩) hHeld ?_
      rotate_left
      · intro w hSw; go_simp; with_reducible rfl
      simp only [Act.put, List.setIfInBounds_toArray, List.set_cons_zero, List.set_cons_succ]
      refine take_at 2 19 (v := ?_) rfl rfl (by kernel_rfl) (by kernel_rfl) (by kernel_rfl) (Or.inl ⟨by rfl, ?_⟩) hHeld ?_
      rotate_left
      · intro w hSw; go_simp; with_reducible rfl
      simp only [Act.put, List.setIfInBounds_toArray, List.set_cons_zero, List.set_cons_succ]
      refine take_at 3 20 rfl rfl (by kernel_rfl) (by kernel_rfl) (by kernel_rfl) (yieldsIf_load_mid (by rfl) _ _ rfl x (k * 4) rfl _ _ (fun w h => h.1) Try.underlying24 rfl s4) hHeld ?_
      simp only [Act.put, List.setIfInBounds_toArray, List.set_cons_zero, List.set_cons_succ]
      refine take_at 4 21 (v := ?_) rfl rfl (by kernel_rfl) (by kernel_rfl) (by kernel_rfl) (Or.inl ⟨by rfl, ?_⟩) hHeld ?_
      rotate_left
      · intro w hSw; go_simp; with_reducible rfl
      simp only [Act.put, List.setIfInBounds_toArray, List.set_cons_zero, List.set_cons_succ]
      refine take_at 5 22 (v := ?_) rfl rfl (by kernel_rfl) (by kernel_rfl) (by kernel_rfl) (Or.inl ⟨by rfl, ?_⟩) hHeld ?_
      rotate_left
      · intro w hSw; go_simp; with_reducible rfl
      simp only [Act.put, List.setIfInBounds_toArray, List.set_cons_zero, List.set_cons_succ]
      refine take_at 6 23 (v := ?_) rfl rfl (by kernel_rfl) (by kernel_rfl) (by kernel_rfl) (Or.inl ⟨by rfl, ?_⟩) hHeld ?_
      rotate_left
      · intro w hSw; go_simp; with_reducible rfl
      simp only [Act.put, List.setIfInBounds_toArray, List.set_cons_zero, List.set_cons_succ]
      refine take_at 7 24 rfl rfl (by kernel_rfl) (by kernel_rfl) (by kernel_rfl) (yieldsIf_load_mid (by rfl) _ _ rfl y (k * 4) rfl _ _ (fun w h => h.2) Try.underlying24 rfl s4) hHeld ?_
      simp only [Act.put, List.setIfInBounds_toArray, List.set_cons_zero, List.set_cons_succ]
      refine take_at 8 25 rfl rfl (by kernel_rfl) (by kernel_rfl) (by kernel_rfl) (yieldsIf_neqA (by rfl) 24 24 (.tmp 20) (.tmp 24) rfl _ _ rfl rfl rec_guard true (unhide EQ)) hHeld ?_
      simp only [Act.put, List.setIfInBounds_toArray, List.set_cons_zero, List.set_cons_succ]
      refine wpAnyH_done (by kernel_rfl) ?_ _
      refine NoPanic.normal ?_
      clear hHeld R1 R2
      go_wp2_with fail
      exact ⟨⟨k + 1, by omega, congrArg (Value.int .i64) (by omega), (unhide HK).drew⟩, by simp [intOf]; omega⟩
    · obtain rfl : k = n := by omega
      go_wp2_with fail
      go_ret
      exact ⟨rfl, unhide HK⟩

/-! ### Calls -/
structure OpR where
  kind : Int
  core : Int
  seq : Int
  n : Int
  r : Rc
  v : Int
  ka : Option Addr
  keep : List Int
  kcap : Nat
instance : Inhabited OpR := ⟨⟨0, 0, 0, 0, zr, 0, none, [], 0⟩⟩
def OpR.cells (p : OpR) : List Value := [.int .i64 p.kind, .int .i64 p.core, .int .i64 p.seq, .int .i64 p.n, .int .i64 p.r.q, .int .i64 p.r.d, .int .i64 p.r.o, .int .u64 p.r.v, .int .u64 p.v, .slice p.ka p.keep.length p.kcap]
def OpR.ok (W : World) (p : OpR) : Prop := In64 p.kind ∧ In64 p.core ∧ In64 p.seq ∧ In64 p.n ∧ IsRec p.r ∧ InU p.v ∧ IntsAt W p.ka p.keep ∧ (∀ z ∈ p.keep, In64 z) ∧ p.keep.length ≤ 9223372036854775807
def OpsR (W : World) (a : Option Addr) (n cap : Nat) (o : Nat → OpR) : Prop := n ≤ 9223372036854775807 ∧ (n = 0 ∨ ∃ b off, a = some ⟨b, off, none⟩ ∧ ∀ i, i < n → W.rangeAt b (off + i * 10) (o i).cells ∧ (o i).ok W)

theorem rec_of_trod {H : Type} {enc : TypeId × Value → H} {W : World} {fuel : Nat} {cs : List Value} {x : DataW H × List MemPlace} (h : DataW.trod enc Try.prog W 0 (fun _ => true) true fuel 24 cs = some x) (hl : cs.length = 4) :
    ∃ r : Rc, cs = (rv r).toList ∧ IsRec r := by
  obtain ⟨xs, k, hk, hxy, hcl, hxl, hf⟩ := DataW.trod_struct Try.underlying24 h
  match cs, hl with
  | [c0, c1, c2, c3], _ =>
    have hlen : xs.length = 4 := by simpa using hxl
    match xs, hlen with
    | [y0, y1, y2, y3], _ =>
      have k1 : Try.prog.cellsOf 3 = 1 := by kernel_rfl
      have k2 : Try.prog.cellsOf 22 = 1 := by kernel_rfl
      have g0 := hf 0 _ rfl
      have g1 := hf 1 _ rfl
      have g2 := hf 2 _ rfl
      have g3 := hf 3 _ rfl
      simp [k1, k2] at g0 g1 g2 g3
      obtain ⟨z0, e0, _, w0⟩ := DataW.trod_int Try.underlying3 g0
      obtain ⟨z1, e1, _, w1⟩ := DataW.trod_int Try.underlying3 g1
      obtain ⟨z2, e2, _, w2⟩ := DataW.trod_int Try.underlying3 g2
      obtain ⟨z3, e3, _, w3⟩ := DataW.trod_int Try.underlying22 g3
      simp at e0 e1 e2 e3
      subst e0 e1 e2 e3
      exact ⟨⟨z0, z1, z2, z3⟩, rfl, w0, w1, w2, w3⟩
theorem opR_of_trod {H : Type} {enc : TypeId × Value → H} {W : World} {fuel : Nat} {cs : List Value} {x : DataW H × List MemPlace} (h : DataW.trod enc Try.prog W 0 (fun _ => true) true fuel 45 cs = some x) (hl : cs.length = 10) :
    ∃ p : OpR, cs = p.cells ∧ p.ok W := by
  obtain ⟨xs, k, hk, hxy, hcl, hxl, hf⟩ := DataW.trod_struct Try.underlying45 h
  match cs, hl with
  | [c0, c1, c2, c3, c4, c5, c6, c7, c8, c9], _ =>
    have hlen : xs.length = 7 := by simpa using hxl
    match xs, hlen with
    | [y0, y1, y2, y3, y4, y5, y6], _ =>
      have k1 : Try.prog.cellsOf 3 = 1 := by kernel_rfl
      have k2 : Try.prog.cellsOf 22 = 1 := by kernel_rfl
      have k3 : Try.prog.cellsOf 43 = 1 := by kernel_rfl
      have k4 : Try.prog.cellsOf 24 = 4 := by kernel_rfl
      have g0 := hf 0 _ rfl
      have g1 := hf 1 _ rfl
      have g2 := hf 2 _ rfl
      have g3 := hf 3 _ rfl
      have g4 := hf 4 _ rfl
      have g5 := hf 5 _ rfl
      have g6 := hf 6 _ rfl
      simp [k1, k2, k3, k4] at g0 g1 g2 g3 g4 g5 g6
      obtain ⟨z0, e0, _, w0⟩ := DataW.trod_int Try.underlying3 g0
      obtain ⟨z1, e1, _, w1⟩ := DataW.trod_int Try.underlying3 g1
      obtain ⟨z2, e2, _, w2⟩ := DataW.trod_int Try.underlying3 g2
      obtain ⟨z3, e3, _, w3⟩ := DataW.trod_int Try.underlying3 g3
      obtain ⟨r, e4, w4⟩ := rec_of_trod g4 rfl
      obtain ⟨z5, e5, _, w5⟩ := DataW.trod_int Try.underlying22 g5
      obtain ⟨a, zs, n, cap, e6, hr⟩ := row_of_trod Try.underlying43 Try.underlying3 (by kernel_rfl) g6
      simp [rv] at e0 e1 e2 e3 e4 e5
      obtain ⟨e41, e42, e43, e44⟩ := e4
      subst e0 e1 e2 e3 e41 e42 e43 e44 e5 e6
      obtain ⟨q1, q2, q3⟩ := hr.keep
      refine ⟨⟨z0, z1, z2, z3, r, z5, a, zs, cap⟩, ?_, in64_wf w0, in64_wf w1, in64_wf w2, in64_wf w3, w4, inU_wf w5, q1, q2, q3⟩
      simp [OpR.cells, hr.1]
theorem open_opsR {H : Type} {enc : TypeId × Value → H} {W : World} {r : Reach} {b0 : Nat} {v : Value} {d : DataW H} {p : List MemPlace} (hv : Value.okWide Try.prog W r b0 36 v)
    (h : DataW.Trod enc Try.prog W 0 (fun _ => true) true 36 v d p) : ∃ (a : Option Addr) (n cap : Nat) (o : Nat → OpR), v = .slice a n cap ∧ OpsR W a n cap o := by
  obtain ⟨a, len, cap, rfl⟩ := okWide_slice Try.underlying36 hv
  obtain ⟨fuel, hf⟩ := h
  have k10 : Try.prog.cellsOf 45 = 10 := by kernel_rfl
  rcases open_slice Try.underlying36 hf with ⟨hcs, _⟩ | ⟨x, l, c, m, n, D, Pl, hcs, hb, hl, hm, hmm, _, hx⟩
  · simp [Value.cells] at hcs
    obtain ⟨rfl, rfl, rfl⟩ := hcs
    exact ⟨none, 0, 0, default, rfl, by decide, Or.inl rfl⟩
  · simp [Value.cells] at hcs
    obtain ⟨rfl, rfl, rfl⟩ := hcs
    rw [k10] at hx
    have hlm : len ≤ m := by rw [hmm]; simp; exact hl
    unfold maxLen at hm
    obtain ⟨o, ho⟩ := choose_lt (α := OpR) (n := len) (p := fun i q => (∀ j, j < 10 → W.cell? (x.add (i * 10 + j)) = q.cells[j]?) ∧ q.ok W) (fun i hi => by
      obtain ⟨cs', h1, h2⟩ := hx i (by omega)
      obtain ⟨_, hlen, hcell⟩ := World.cells?_some h1
      obtain ⟨q, rfl, hq⟩ := opR_of_trod h2 hlen
      refine ⟨q, fun j hj => ?_, hq⟩
      have := hcell j hj
      rw [add_add] at this
      exact this)
    refine ⟨some x, len, cap, o, rfl, by omega, ?_⟩
    by_cases h0 : len = 0
    · exact Or.inl h0
    · right
      obtain ⟨b, off, spot⟩ := x
      have hc0 := (ho 0 (by omega)).1 0 (by omega)
      have hspot : spot = none := by
        have : W.cell? ((⟨b, off, spot⟩ : Addr).add 0) = some (.int .i64 (o 0).kind) := hc0
        simpa [Addr.add] using World.cell?_spot this
      subst hspot
      refine ⟨b, off, rfl, fun i hi => ⟨fun j u hj => ?_, (ho i hi).2⟩⟩
      have hj10 : j < 10 := by
        rcases Nat.lt_or_ge j 10 with h | h
        · exact h
        · rw [List.getElem?_eq_none (by simpa [OpR.cells] using h)] at hj; simp at hj
      have := (ho i hi).1 j hj10
      rw [Addr.add_mid, hj] at this
      rw [Nat.add_assoc]
      exact this

end Go.Proofs.Ytjidekjeibdbgaa
