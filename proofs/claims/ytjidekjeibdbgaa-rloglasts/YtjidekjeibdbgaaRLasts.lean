
/-
  For every number of records, every moment at which the power goes off and whatever is kept, RlogLasts returns true and leaves its arguments as they were: records that were appended are scanned behind any crash, by their numbers, and one on whose way the power went off is there whole, or not at all. No condition.
-/
import Derived.Test.YtjidekjeibdbgaaPkScan
import Derived.Test.YtjidekjeibdbgaaRKind
import Derived.Test.YtjidekjeibdbgaaRows
namespace Go.Proofs.Ytjidekjeibdbgaa.rlogLasts
open Go.ChangeShapes Go.WideShapes Go.ChangeAt Go.RowKit Go.Joins
set_option linter.unusedVariables false
set_option linter.unusedSimpArgs false
set_option maxRecDepth 100000

def rc (j : Nat) : Rc := ⟨(j : Int), (j : Int), ((j % 8 : Nat) : Int), (j : Int)⟩
/-- Which of the records a line has, if it has one. -/
def lj (p : Nat) : Nat := 3 * ((p - 2) % 4) + (if (p - 2) / 4 = 0 then 3 else (p - 2) / 4)
def lf (i : Nat) : Nat → Option Rc := fun p => if (2 ≤ p ∧ p < 14) ∧ lj p ≤ i then some (rc (lj p)) else none
theorem find_lf : ∀ i, i < 12 → findF (lf i) ((i + 1) % 3) 0 = some (i / 3) := by decide +kernel
theorem next_lf (i : Nat) (h : i < 12) : upd (lf i) (2 + 4 * ((i + 1) % 3) + i / 3) (some (rc (i + 1))) = lf (i + 1) := by
  have fin : ∀ i, i < 12 → ∀ p, p < 14 → upd (lf i) (2 + 4 * ((i + 1) % 3) + i / 3) (some (rc (i + 1))) p = lf (i + 1) p := by decide +kernel
  funext p
  by_cases hp : p < 14
  · exact fin i h p hp
  · unfold upd lf
    rw [if_neg (by omega), if_neg (by omega), if_neg (by omega)]
theorem none_lf (i : Nat) (h : i < 12) : upd (lf i) (2 + 4 * ((i + 1) % 3) + i / 3) none = lf i := by
  have fin : ∀ i, i < 12 → lf i (2 + 4 * ((i + 1) % 3) + i / 3) = none := by decide +kernel
  funext p
  unfold upd
  by_cases hp : p = 2 + 4 * ((i + 1) % 3) + i / 3
  · rw [if_pos hp, hp, fin i h]
  · rw [if_neg hp]
theorem scan_lf : ∀ i, i < 13 → sortR (recsF (lf i) 12) = (List.range i).map fun t => rc (t + 1) := by decide +kernel
theorem rc_may (j : Nat) (h1 : 1 ≤ j) (h2 : j ≤ 12) : mayR (rc j) = true := by
  simp [mayR, rc]; omega
theorem rc_ok (j : Nat) (h2 : j ≤ 13) : (rc j).ok := by
  unfold Rc.ok rc; simp; omega
theorem log_zero : Log s0 (lf 0) := by
  have e : lf 0 = fun _ => none := by
    funext p
    unfold lf
    rw [if_neg (by unfold lj; split <;> omega)]
  rw [e]; exact log_new
/-- An Append of the next record: done, or broken off. -/
theorem lasts_step {A : Mm} {i : Nat} (h : Log A (lf i)) (hi : i < 12) :
    (A.appE (((i + 1) % 3 : Nat) : Int) 0 (rc (i + 1)) = 0 ∧ Log (A.appZ (((i + 1) % 3 : Nat) : Int) 0 (rc (i + 1))) (lf (i + 1))) ∨
    (A.appE (((i + 1) % 3 : Nat) : Int) 0 (rc (i + 1)) ≠ 0 ∧ ∀ keep, ∃ d, i ≤ d ∧ d ≤ i + 1 ∧ Log ((A.appZ (((i + 1) % 3 : Nat) : Int) 0 (rc (i + 1))).crash keep) (lf d)) := by
  rcases log_app h ((i + 1) % 3) (by omega) 0 (rc (i + 1)) (rc_may _ (by omega) (by omega)) (i / 3) (find_lf i hi) with ⟨h1, h2⟩ | ⟨h1, h2⟩
  · rw [next_lf i hi] at h2; exact Or.inl ⟨h1, h2⟩
  · refine Or.inr ⟨h1, fun keep => ?_⟩
    have := h2 keep
    rw [next_lf i hi, none_lf i hi] at this
    rcases this with h | h | h
    · exact ⟨i, by omega, by omega, h⟩
    · exact ⟨i + 1, by omega, by omega, h⟩
    · exact ⟨i, by omega, by omega, h⟩
theorem lasts_scan {A : Mm} {d : Nat} (h : Log A (lf d)) (hd : d < 13) : A.scanE 3 = 0 ∧ A.scanV 3 = (List.range d).map fun t => rc (t + 1) := by
  obtain ⟨q1, q2⟩ := log_scan h 3 (by decide) (by decide)
  rw [show ((3 : Nat) : Int) = 3 from rfl] at q1 q2
  exact ⟨q1, q2.trans (scan_lf d hd)⟩

theorem open_keepR {H : Type} {enc : TypeId × Value → H} {W : World} {r : Reach} {b0 : Nat} {v : Value} {d : DataW H} {p : List MemPlace}
    (hv : Value.okWide Try.prog W r b0 43 v) (h : DataW.Trod enc Try.prog W 0 (fun _ => true) true 43 v d p) :
    ∃ (a : Option Addr) (keep : List Int) (cap : Nat), v = .slice a keep.length cap ∧ IntsAt W a keep ∧ (∀ z ∈ keep, In64 z) ∧ keep.length ≤ 9223372036854775807 := by
  obtain ⟨a, len, cap, rfl⟩ := okWide_slice Try.underlying43 hv
  obtain ⟨fuel, hf⟩ := h
  obtain ⟨a, zs, n, cap, e, hr⟩ := row_of_trod Try.underlying43 Try.underlying3 (by kernel_rfl) hf
  have hl := hr.1
  subst hl
  exact ⟨a, zs, cap, e, hr.keep⟩

set_option maxHeartbeats 8000000 in
theorem walk (W : World) (x y : Int) (a : Option Addr) (keep : List Int) (cap : Nat) (wx : (Lit.int .i64 x).wf = true) (wy : (Lit.int .i64 y).wf = true) (hp : IntsAt W a keep ∧ (∀ z ∈ keep, In64 z) ∧ keep.length ≤ 9223372036854775807) :
    Calls Try.prog 6 #[.int .i64 x, .int .i64 y, .slice a keep.length cap] W fun e W' => e = .returned (.bool true) ∧ Below W.heap.size W W' := by
  have HP := hide hp
  have K1 := hide (rkind_any x (in64_wf wx) 13 (by decide) (by decide))
  have K2 := hide (rkind_any y (in64_wf wy) 130 (by decide) (by decide))
  have hn := kindN_lt x 13 (by decide)
  have hf := kindN_lt y 130 (by decide)
  generalize kindN x 13 = n at *
  generalize kindN y 130 = fz at *
  clear wx wy hp
  go_enter Try.func6, Try.ntmps6
  go_wp2_with fail
  refine (shown6_any _).mono ?_
  rintro e w1 ⟨rfl, hk1⟩
  have HK1 := hide hk1
  clear hk1
  go_wp2_with fail
  refine (new_any w1 64 (by decide) (by decide)).mono ?_
  intro e w2 hm
  obtain ⟨b, rfl, h0, -⟩ := made_has W (unhide HK1) hm (fun _ => False) (fun _ h => h.elim)
  have H0 : Hid (Has W w2 (fun _ => False) b s0) := h0
  clear hm h0 HK1
  go_wp2_with fail
  refine (unhide K1 _).mono ?_
  rintro e w2 ⟨rfl, rfl⟩
  go_wp2_with fail
  refine (unhide K2 _).mono ?_
  rintro e w2 ⟨rfl, rfl⟩
  clear K1 K2
  go_wp2_with fail
  refine ((unhide H0).fuse (fz : Int)).mono ?_
  rintro e w3 ⟨rfl, q1, -⟩
  have H1 : Aside (Has W w3 (fun _ => False) b (s0.fused (fz : Int))) := q1
  have L1 : Aside (Log (s0.fused (fz : Int)) (lf 0) ∧ (s0.fused (fz : Int)).ok 0) := ⟨log_fused log_zero _, ok_fused (ok_new (by decide) (by decide) (fun _ _ => ⟨by decide, by decide⟩)) _ (by unfold In64; omega)⟩
  clear q1 H0
  generalize s0.fused (fz : Int) = A0 at *
  go_wp2_with fail
  go_loopw [11, 12] (fun z1 z2 wr => ∃ (i : Nat) (A : Mm), i ≤ n ∧ z1 = .int .i64 (i : Int) ∧ z2 = .int .i64 ((i : Int) + 1) ∧ Aside (Has W wr (fun _ => False) b A) ∧ Aside (Log A (lf i) ∧ A.ok (11 * i))) (fun z1 z2 _ => n - (intOf z1).toNat)
  case atStart => exact ⟨0, A0, by omega, rfl, rfl, H1, L1⟩
  case round =>
    clear H1 L1
    obtain ⟨i, A, hi, rfl, rfl, H2, L2⟩ := hrel
    by_cases hlt : i < n
    · obtain ⟨j, hj⟩ : ∃ j : Nat, (i : Int) + 1 = (j : Int) := ⟨i + 1, by omega⟩
      have hltz : (j : Int) ≤ (n : Int) := by omega
      rw [hj]
      have hj2 : j = i + 1 := by omega
      have e3 : (((i + 1) % 3 : Nat) : Int) = (j : Int) % 3 := by rw [hj2]; omega
      obtain ⟨A2, hA2⟩ : ∃ A2, A2 = A.appZ (((i + 1) % 3 : Nat) : Int) 0 (rc (i + 1)) := ⟨_, rfl⟩
      obtain ⟨E, hE⟩ : ∃ E, E = A.appE (((i + 1) % 3 : Nat) : Int) 0 (rc (i + 1)) := ⟨_, rfl⟩
      have CA : Hid (∀ w G, Has W w G b A → Calls Try.prog 26 #[.pointer (some ⟨b, 0, none⟩), .int .i64 ((j : Int) % 3), .int .i64 0, .agg #[.int .i64 (j : Int), .int .i64 (j : Int), .int .i64 ((j : Int) % 8), .int .u64 (j : Int)]] w (After W w G b A2 (.int .i64 E))) := fun w G h => by
        have q := h.appR (ok_mono L2.out.2 (by omega)) (((i + 1) % 3 : Nat) : Int) 0 (rc (i + 1)) (rc_ok _ (by omega))
        rw [← hA2, ← hE, e3, ← hj2] at q
        have e8 : rv (rc j) = #[.int .i64 (j : Int), .int .i64 (j : Int), .int .i64 ((j : Int) % 8), .int .u64 (j : Int)] := by
          unfold rv rc
          simp only [Int.natCast_emod]; rfl
        rw [e8] at q; exact q
      have ST := hide (lasts_step L2.out.1 (by omega))
      have OK2 : Hid (A2.ok (11 * (i + 1))) := by
        rw [hA2]
        exact ok_mono (ok_appZ L2.out.2 _ 0 _ (rc_ok _ (by omega))) (by omega)
      rw [← hA2, ← hE] at ST
      have HJ := hide hj
      clear hA2 hE hj hj2 e3 L2
      go_wp2_with fail
      refine (unhide CA _ _ H2.out).mono ?_
      rintro e w4 ⟨rfl, q1, -⟩
      have H3 : Aside (Has W w4 (fun _ => False) b A2) := q1
      clear q1 H2 CA
      by_cases hE0 : E = 0
      · have L3 : Aside (Log A2 (lf (i + 1)) ∧ A2.ok (11 * (i + 1))) := by
          rcases unhide ST with ⟨-, h⟩ | ⟨h, -⟩
          · exact ⟨h, unhide OK2⟩
          · exact absurd hE0 h
        subst hE0
        clear ST OK2
        go_wp2_with fail
        go_roundw
        case rel =>
          have hJ := unhide HJ
          exact ⟨i + 1, A2, by omega, by go_num, by go_num, H3, L3⟩
        case measure =>
          have hJ := unhide HJ
          simp [intOf]; omega
      · have HB : Hid (∃ d, i ≤ d ∧ d ≤ i + 1 ∧ d ≤ n ∧ Log (A2.crash keep) (lf d)) := by
          rcases unhide ST with ⟨h, -⟩ | ⟨-, h⟩
          · exact absurd h hE0
          · obtain ⟨d, h1, h2, h3⟩ := h keep
            exact ⟨d, h1, h2, by omega, h3⟩
        have OKB : Hid (A2.ok 1000) := ok_mono (unhide OK2) (by omega)
        have hEb : (E == 0) = false := by simpa using hE0
        clear ST OK2 hE0 hltz
        go_wp2_with fail
        refine (H3.out.crash_arg (unhide OKB) a keep cap (unhide HP).2.1 (unhide HP).2.2 (unhide HP).1).mono ?_
        rintro e w5 ⟨rfl, q1, -⟩
        obtain ⟨d, d1, d2, d3, d4⟩ := unhide HB
        have OKC : Hid ((A2.crash keep).ok 1000) := ok_crash (unhide OKB) keep
        obtain ⟨e1, e2⟩ := lasts_scan d4 (by omega)
        have S := hide (Has.scanR q1 (unhide OKC) 3)
        rw [e1, e2] at S
        clear q1 e1 e2 d4 HB OKB OKC H3
        go_wp2_with fail
        refine (unhide S).mono ?_
        rintro e w6 ⟨v, rfl, ⟨C, g1, ⟨-, g2⟩, -, -⟩, -⟩
        have HK := hide g1.keeps
        obtain ⟨p, cap2, rfl, hat⟩ := owns_open g2
        have HAT := hide hat
        rw [show ((List.range d).map fun t => rc (t + 1)).length = d by simp] at HAT ⊢
        clear S g1 g2 hat
        have d1z : (decide (d < i)) = false := decide_eq_false (by omega)
        have d2z : (decide (min n (i + 1) < d)) = false := decide_eq_false (by omega)
        have d3z : (decide (min (n : Int) ((i : Int) + 1) < (d : Int))) = false := decide_eq_false (by omega)
        go_wp2_with fail
        all_goals
          go_loopw [15] (fun z wr' => ∃ t : Nat, t ≤ d ∧ z = .int .i64 (t : Int) ∧ wr' = w6) (fun z _ => d - (intOf z).toNat)
          case atStart => exact ⟨0, by omega, rfl, rfl⟩
          case round =>
            obtain ⟨t, ht, rfl, rfl⟩ := hrel
            by_cases hltd : t < d
            · have hltdz : (t : Int) < (d : Int) := by omega
              obtain ⟨g, rfl, -, hr⟩ := unhide HAT t (by simpa using hltd)
              have er : ((List.range d).map fun t => rc (t + 1)).getD t zr = rc (t + 1) := by simp [List.getD_eq_getElem?_getD, hltd]
              rw [er] at hr
              have HR := hide hr
              obtain ⟨u, hu⟩ : ∃ u : Nat, (t : Int) + 1 = (u : Int) := ⟨t + 1, by omega⟩
              have hu2 : t + 1 = u := by omega
              rw [hu2] at HR
              have e8 : rv (rc u) = #[.int .i64 (u : Int), .int .i64 (u : Int), .int .i64 ((u : Int) % 8), .int .u64 (u : Int)] := by
                unfold rv rc
                simp only [Int.natCast_emod]; rfl
              have EQ : Hid (∀ w, (Op.equalIn 10000 24 (.agg (rv (rc u)).toList.toArray) (.agg #[.int .i64 (u : Int), .int .i64 (u : Int), .int .i64 ((u : Int) % 8), .int .u64 (u : Int)])).run Try.prog w = .ok true w) := fun w => by
                rw [Array.toArray_toList, ← e8, equal_rec]; simp
              have s4 : (Try.prog.info? 24).map (·.size) = some (rv (rc u)).toList.length := size4R
              have HU := hide hu
              have hub : u ≤ 13 := by omega
              clear hr er e8 hu2
              go_wp2_with (first | (with_reducible refine wpList_load_mid_r (by with_unfolding_all rfl) 24 (.tmp 84) (by with_unfolding_all rfl) g (t * 4) (by with_unfolding_all rfl) (rv (rc u)).toList _ (unhide HR) Try.underlying24 (by with_unfolding_all rfl) s4 ?_) | (with_reducible refine wpList_neqA (by with_unfolding_all rfl) 24 24 (.tmp 85) (.tmp 96) (by with_unfolding_all rfl) (rv (rc u)).toList.toArray _ (by with_unfolding_all rfl) (by with_unfolding_all rfl) rec_guard _ (unhide EQ) ?_))
              go_roundw
              case rel => exact ⟨t + 1, by omega, by have := unhide HU; go_num, by first | rfl | trivial⟩
              case measure =>
                have := unhide HU
                simp [intOf]; omega
            · obtain rfl : t = d := by omega
              go_wp2_with fail
              go_ret
              exact ⟨rfl, (unhide HK).asBelow⟩
    · have hltz : ¬ (i : Int) + 1 ≤ (n : Int) := by omega
      have HB : Hid (∃ d, i ≤ d ∧ d ≤ i + 1 ∧ d ≤ n ∧ Log (A.crash keep) (lf d)) := ⟨i, by omega, by omega, by omega, log_crash L2.out.1 keep⟩
      have OKB : Hid (A.ok 1000) := ok_mono L2.out.2 (by omega)
      have H3 := H2
      clear H2 L2
      obtain ⟨A2, hA2⟩ : ∃ A2, A2 = A := ⟨_, rfl⟩
      rw [← hA2] at HB OKB H3
      clear hA2
      go_wp2_with fail
      refine (H3.out.crash_arg (unhide OKB) a keep cap (unhide HP).2.1 (unhide HP).2.2 (unhide HP).1).mono ?_
      rintro e w5 ⟨rfl, q1, -⟩
      obtain ⟨d, d1, d2, d3, d4⟩ := unhide HB
      have OKC : Hid ((A2.crash keep).ok 1000) := ok_crash (unhide OKB) keep
      obtain ⟨e1, e2⟩ := lasts_scan d4 (by omega)
      have S := hide (Has.scanR q1 (unhide OKC) 3)
      rw [e1, e2] at S
      clear q1 e1 e2 d4 HB OKB OKC H3
      go_wp2_with fail
      refine (unhide S).mono ?_
      rintro e w6 ⟨v, rfl, ⟨C, g1, ⟨-, g2⟩, -, -⟩, -⟩
      have HK := hide g1.keeps
      obtain ⟨p, cap2, rfl, hat⟩ := owns_open g2
      have HAT := hide hat
      rw [show ((List.range d).map fun t => rc (t + 1)).length = d by simp] at HAT ⊢
      clear S g1 g2 hat
      have d1z : (decide (d < i)) = false := decide_eq_false (by omega)
      have d2z : (decide (min n (i + 1) < d)) = false := decide_eq_false (by omega)
      have d3z : (decide (min (n : Int) ((i : Int) + 1) < (d : Int))) = false := decide_eq_false (by omega)
      go_wp2_with fail
      all_goals
        go_loopw [15] (fun z wr' => ∃ t : Nat, t ≤ d ∧ z = .int .i64 (t : Int) ∧ wr' = w6) (fun z _ => d - (intOf z).toNat)
        case atStart => exact ⟨0, by omega, rfl, rfl⟩
        case round =>
          obtain ⟨t, ht, rfl, rfl⟩ := hrel
          by_cases hltd : t < d
          · have hltdz : (t : Int) < (d : Int) := by omega
            obtain ⟨g, rfl, -, hr⟩ := unhide HAT t (by simpa using hltd)
            have er : ((List.range d).map fun t => rc (t + 1)).getD t zr = rc (t + 1) := by simp [List.getD_eq_getElem?_getD, hltd]
            rw [er] at hr
            have HR := hide hr
            obtain ⟨u, hu⟩ : ∃ u : Nat, (t : Int) + 1 = (u : Int) := ⟨t + 1, by omega⟩
            have hu2 : t + 1 = u := by omega
            rw [hu2] at HR
            have e8 : rv (rc u) = #[.int .i64 (u : Int), .int .i64 (u : Int), .int .i64 ((u : Int) % 8), .int .u64 (u : Int)] := by
              unfold rv rc
              simp only [Int.natCast_emod]; rfl
            have EQ : Hid (∀ w, (Op.equalIn 10000 24 (.agg (rv (rc u)).toList.toArray) (.agg #[.int .i64 (u : Int), .int .i64 (u : Int), .int .i64 ((u : Int) % 8), .int .u64 (u : Int)])).run Try.prog w = .ok true w) := fun w => by
              rw [Array.toArray_toList, ← e8, equal_rec]; simp
            have s4 : (Try.prog.info? 24).map (·.size) = some (rv (rc u)).toList.length := size4R
            have HU := hide hu
            have hub : u ≤ 13 := by omega
            clear hr er e8 hu2
            go_wp2_with (first | (with_reducible refine wpList_load_mid_r (by with_unfolding_all rfl) 24 (.tmp 84) (by with_unfolding_all rfl) g (t * 4) (by with_unfolding_all rfl) (rv (rc u)).toList _ (unhide HR) Try.underlying24 (by with_unfolding_all rfl) s4 ?_) | (with_reducible refine wpList_neqA (by with_unfolding_all rfl) 24 24 (.tmp 85) (.tmp 96) (by with_unfolding_all rfl) (rv (rc u)).toList.toArray _ (by with_unfolding_all rfl) (by with_unfolding_all rfl) rec_guard _ (unhide EQ) ?_))
            go_roundw
            case rel => exact ⟨t + 1, by omega, by have := unhide HU; go_num, by first | rfl | trivial⟩
            case measure =>
              have := unhide HU
              simp [intOf]; omega
          · obtain rfl : t = d := by omega
            go_wp2_with fail
            go_ret
            exact ⟨rfl, (unhide HK).asBelow⟩

set_option maxRecDepth 100000 in
theorem lifted (os : Os) (started : os.Started) (H : Type) (enc : TypeId × Value → H) :
    ReturnsInHanded {} Try.checked os 6 .any (Rows.rlogLastsSpec.pre6 enc Try.prog Try.f6 Rows.rlogLastsRow.domain false) (Rows.rlogLastsSpec.post enc Try.prog Try.f6 false true false false) := by
  refine law_frame (C := Try.checked) (ts := [3, 3, 43]) (tb := 4) (by kernel_rfl) started (by kernel_rfl) Try.func6 Try.params6 (by kernel_rfl) Try.underlying4 (by kernel_rfl) (by kernel_rfl) rfl ?_
    (ChangeSpec.witness6 (enc := enc) (C := Try.checked) false ⟨#[], #[.int .i64 0, .int .i64 0, .slice none 0 0], []⟩ 8 (by kernel_rfl) (by kernel_rfl) (by kernel_rfl) (by kernel_rfl)) ?_
  · intro ds hd
    match ds, hd with
    | [d0, d1, d2], _ => rfl
  · intro W base args ds p hval hA
    obtain ⟨v0, vs0, d0, ds0, p0, q0, hargs, rfl, rfl, h0, r0⟩ := trodAll_cons hA
    obtain ⟨v1, vs1, d1, ds1, p1, q1, rfl, rfl, rfl, h1, r1⟩ := trodAll_cons r0
    obtain ⟨v2, vs2, d2, ds2, p2, q2, rfl, rfl, rfl, h2, r2⟩ := trodAll_cons r1
    obtain ⟨rfl, rfl, rfl⟩ := trodAll_nil r2
    obtain rfl : args = #[v0, v1, v2] := by cases args; simp_all
    obtain ⟨x, rfl, rfl, rfl, wx⟩ := open_int Try.underlying3 (hval 0 3 v0 rfl rfl) h0
    obtain ⟨y, rfl, rfl, rfl, wy⟩ := open_int Try.underlying3 (hval 1 3 v1 rfl rfl) h1
    obtain ⟨a, keep, cap, rfl, hp⟩ := open_keepR (hval 2 43 v2 rfl rfl) h2
    exact walk W x y a keep cap wx wy hp

theorem over : Rows.rlogLastsRow.holds Try.pinned (OpenSpec.ofChange Rows.rlogLastsSpec) :=
  OpenClaim.holds_of_wide 6 Try.f6 rfl rfl rfl rfl rfl rfl rfl ⟨rfl, rfl, rfl, rfl, rfl⟩ rfl rfl rfl rfl rfl (by kernel_rfl) Try.func6 (by kernel_rfl)
    (of_decide_eq_true (by kernel_rfl)) (by unfold Func.isWrapper; first | (rw [if_pos (by decide +kernel)]; kernel_rfl) | (rw [if_neg (by decide +kernel)]; exact ⟨rfl, rfl⟩))
    (fun os started H enc _ => lifted os started H enc)

end Go.Proofs.Ytjidekjeibdbgaa.rlogLasts
namespace Go.Proofs.Ytjidekjeibdbgaa
theorem rlogLasts_holds : Rows.RlogLastsSaid := rlogLasts.over
end Go.Proofs.Ytjidekjeibdbgaa
