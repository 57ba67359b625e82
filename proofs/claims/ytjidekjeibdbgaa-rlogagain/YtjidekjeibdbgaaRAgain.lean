
/-
  For every core and every number, RlogAgain returns true: places whose records are not above a number are used again, and those that are above it are kept. No condition.
-/
import Derived.Test.YtjidekjeibdbgaaPkScan
import Derived.Test.YtjidekjeibdbgaaRKind
import Derived.Test.YtjidekjeibdbgaaRows
namespace Go.Proofs.Ytjidekjeibdbgaa.rlogAgain
open Go.ChangeShapes Go.WideShapes Go.ChangeAt Go.RowKit Go.Joins
set_option linter.unusedVariables false
set_option linter.unusedSimpArgs false
set_option maxRecDepth 100000

/-- The memory behind i Appends of the numbers 1 to i by the core c. -/
def am (c : Nat) : Nat → Mm
  | 0 => s0
  | i + 1 => (am c i).appZ (c : Int) 0 (sq (i + 1))
def ag (c i : Nat) : Nat → Option Rc := fun p => if 2 + 4 * c ≤ p ∧ p < 2 + 4 * c + i then some (sq (p - (2 + 4 * c) + 1)) else none
theorem ag_next (c i : Nat) : upd (ag c i) (2 + 4 * c + i) (some (sq (i + 1))) = ag c (i + 1) := by
  funext p
  unfold upd ag
  by_cases h : p = 2 + 4 * c + i
  · rw [if_pos h, if_pos (by omega), show p - (2 + 4 * c) = i by omega]
  · rw [if_neg h]
    by_cases h2 : 2 + 4 * c ≤ p ∧ p < 2 + 4 * c + i
    · rw [if_pos h2, if_pos (by omega)]
    · rw [if_neg h2, if_neg (by omega)]
theorem find_ag : ∀ c, c < 8 → ∀ i, i < 4 → findF (ag c i) c 0 = some i := by decide +kernel
theorem sq_may : ∀ i, 1 ≤ i → i < 10 → mayR (sq i) = true := fun i h1 h2 => by
  simp [mayR, sq]; omega
theorem am_ok (c : Nat) : ∀ i, (am c i).ok (11 * i)
  | 0 => ok_mono (ok_new (by decide) (by decide) (fun _ _ => ⟨by decide, by decide⟩)) (by omega)
  | i + 1 => ok_mono (ok_appZ (am_ok c i) (c : Int) 0 (sq (i + 1)) ⟨by simp [sq], by simp [sq]⟩) (by omega)
theorem am_log (c : Nat) (hc : c < 8) : ∀ i, i ≤ 4 → Log (am c i) (ag c i) ∧ (am c i).fuse = -1
  | 0, _ => by
    have e : ag c 0 = fun _ => none := by
      funext p; unfold ag; rw [if_neg (by omega)]
    rw [e]; exact ⟨log_new, rfl⟩
  | i + 1, h => by
    obtain ⟨h1, h2⟩ := am_log c hc i (by omega)
    obtain ⟨-, k2, k3⟩ := log_done h1 h2 c hc 0 (sq (i + 1)) (sq_may _ (by omega) (by omega)) i (find_ag c hc i (by omega))
    rw [ag_next] at k2
    exact ⟨k2, k3⟩
theorem am_app (c : Nat) (hc : c < 8) (i : Nat) (h : i < 4) : (am c i).appE (c : Int) 0 (sq (i + 1)) = 0 := by
  obtain ⟨h1, h2⟩ := am_log c hc i (by omega)
  exact (log_done h1 h2 c hc 0 (sq (i + 1)) (sq_may _ (by omega) (by omega)) i (find_ag c hc i h)).1
theorem find_last : ∀ c, c < 8 → ∀ k : Nat, k < 7 → findF (ag c 4) c (k : Int) = if k = 0 then none else some 0 := by decide +kernel
theorem recs_full : ∀ c, c < 8 → (sortR (recsF (ag c 4) 32)).length = 4 := by decide +kernel
theorem recs_again : ∀ c, c < 8 → sortR (recsF (upd (ag c 4) (2 + 4 * c + 0) (some (sq 9))) 32) = [sq 2, sq 3, sq 4, sq 9] := by decide +kernel
theorem full (c : Nat) (hc : c < 8) : (am c 4).appE (c : Int) 0 (sq 9) = 11 ∧ ((am c 4).appZ (c : Int) 0 (sq 9)).scanE 8 = 0 ∧ (((am c 4).appZ (c : Int) 0 (sq 9)).scanV 8).length = 4 := by
  obtain ⟨h1, h2⟩ := am_log c hc 4 (Nat.le_refl _)
  obtain ⟨k1, k2⟩ := log_full h1 c hc 0 (sq 9) (find_last c hc 0 (by decide))
  obtain ⟨q1, q2⟩ := log_scan h1 8 (by decide) (by decide)
  rw [show ((8 : Nat) : Int) = 8 from rfl] at q1 q2
  rw [k2, q1, q2]
  exact ⟨k1, rfl, recs_full c hc⟩
theorem again (c : Nat) (hc : c < 8) (k : Nat) (hk : k < 7) (h0 : k ≠ 0) : (am c 4).appE (c : Int) (k : Int) (sq 9) = 0 ∧ ((am c 4).appZ (c : Int) (k : Int) (sq 9)).scanE 8 = 0 ∧ ((am c 4).appZ (c : Int) (k : Int) (sq 9)).scanV 8 = [sq 2, sq 3, sq 4, sq 9] := by
  obtain ⟨h1, h2⟩ := am_log c hc 4 (Nat.le_refl _)
  have hf := find_last c hc k hk
  rw [if_neg h0] at hf
  obtain ⟨k1, k2, -⟩ := log_done h1 h2 c hc (k : Int) (sq 9) (by decide) 0 hf
  obtain ⟨q1, q2⟩ := log_scan k2 8 (by decide) (by decide)
  rw [show ((8 : Nat) : Int) = 8 from rfl] at q1 q2
  exact ⟨k1, q1, q2.trans (recs_again c hc)⟩

set_option maxHeartbeats 4000000 in
theorem walk (x y : Int) (wx : (Lit.int .i64 x).wf = true) (wy : (Lit.int .i64 y).wf = true) (W : World) :
    Calls Try.prog 7 #[.int .i64 x, .int .i64 y] W fun e W' => e = .returned (.bool true) ∧ Below W.heap.size W W' := by
  have K1 := hide (rkind_any x (in64_wf wx) 8 (by decide) (by decide))
  have K2 := hide (rkind_any y (in64_wf wy) 7 (by decide) (by decide))
  have hc := kindN_lt x 8 (by decide)
  have hk := kindN_lt y 7 (by decide)
  generalize kindN x 8 = c at *
  generalize kindN y 7 = k at *
  clear wx wy
  go_enter Try.func7, Try.ntmps7
  go_wp2_with fail
  refine (shown6_any _).mono ?_
  rintro e w1 ⟨rfl, hk1⟩
  have HK1 := hide hk1
  clear hk1
  go_wp2_with fail
  refine (new_any w1 64 (by decide) (by decide)).mono ?_
  intro e w2 hm
  obtain ⟨b, rfl, h0, -⟩ := made_has W (unhide HK1) hm (fun _ => False) (fun _ h => h.elim)
  have H0 : Hid (Has W w2 (fun _ => False) b (am c 0)) := h0
  clear hm h0 HK1
  have C3 : Hid (∀ i : Nat, i < 4 → ∀ w G, Has W w G b (am c i) → Calls Try.prog 26 #[.pointer (some ⟨b, 0, none⟩), .int .i64 (c : Int), .int .i64 0, .agg #[.int .i64 ((i + 1 : Nat) : Int), .int .i64 0, .int .i64 0, .int .u64 0]] w (After W w G b (am c (i + 1)) (.int .i64 0))) := fun i h1 w G h => by
    have := h.appR (ok_mono (am_ok c i) (by omega)) (c : Int) 0 (sq (i + 1)) ⟨by simp [sq], by simp [sq]⟩
    rw [am_app c hc i h1] at this; exact this
  have C4 : Hid (∀ w G, Has W w G b (am c 4) → Calls Try.prog 26 #[.pointer (some ⟨b, 0, none⟩), .int .i64 (c : Int), .int .i64 (k : Int), .agg #[.int .i64 9, .int .i64 0, .int .i64 0, .int .u64 0]] w (After W w G b ((am c 4).appZ (c : Int) (k : Int) (sq 9)) (.int .i64 ((am c 4).appE (c : Int) (k : Int) (sq 9))))) := fun w G h => h.appR (ok_mono (am_ok c 4) (by decide)) (c : Int) (k : Int) (sq 9) ⟨by simp [sq], by simp [sq]⟩
  have HOK : Hid (((am c 4).appZ (c : Int) (k : Int) (sq 9)).ok 1000) := ok_mono (ok_appZ (am_ok c 4) _ _ (sq 9) ⟨by simp [sq], by simp [sq]⟩) (by decide)
  have HF := hide (full c hc)
  have HA := hide (again c hc k hk)
  go_wp2_with fail
  refine (unhide K1 _).mono ?_
  rintro e w2 ⟨rfl, rfl⟩
  go_wp2_with fail
  refine (unhide K2 _).mono ?_
  rintro e w2 ⟨rfl, rfl⟩
  clear K1 K2
  go_wp2_with fail
  go_loopw [10] (fun z wr => ∃ i : Nat, i ≤ 4 ∧ z = .int .i64 ((i + 1 : Nat) : Int) ∧ Aside (Has W wr (fun _ => False) b (am c i))) (fun z _ => 5 - (intOf z).toNat)
  case atStart => exact ⟨0, by decide, rfl, unhide H0⟩
  case round =>
    clear H0
    obtain ⟨i, hi, rfl, H1⟩ := hrel
    by_cases hlt : i < 4
    · obtain ⟨j, hj⟩ : ∃ j : Nat, j = i + 1 := ⟨_, rfl⟩
      have C5 := hide (unhide C3 i hlt)
      rw [← hj] at C5 ⊢
      have hltz : (j : Int) ≤ 4 := by omega
      have HJ := hide hj
      clear hj C3
      go_wp2_with fail
      refine (unhide C5 _ _ H1.out).mono ?_
      rintro e w3 ⟨rfl, q1, -⟩
      have H2 : Aside (Has W w3 (fun _ => False) b (am c j)) := q1
      clear q1 H1
      go_wp2_with fail
      go_roundw
      case rel =>
        have hJ := unhide HJ
        subst hJ
        exact ⟨i + 1, by omega, by go_num, H2⟩
      case measure => simp [intOf]; omega
    · obtain rfl : i = 4 := by omega
      clear hlt hi C3
      go_wp2_with fail
      refine (unhide C4 _ _ H1.out).mono ?_
      rintro e w3 ⟨rfl, q1, -⟩
      have H2 := hide q1
      clear q1 H1 C4
      by_cases h0 : k = 0
      · subst h0
        obtain ⟨e1, e2, e3⟩ := unhide HF
        have S := hide (Has.scanR (unhide H2) (unhide HOK) 8)
        rw [show ((0 : Nat) : Int) = 0 from rfl] at S ⊢
        rw [e2] at S
        rw [e1]
        have HL := hide e3
        clear e1 e2 e3 HF HA
        generalize ((am c 4).appZ (c : Int) 0 (sq 9)).scanV 8 = rs at *
        go_wp2_with fail
        refine (unhide S).mono ?_
        rintro e w4 ⟨v, rfl, ⟨C, g1, ⟨-, g2⟩, -, -⟩, -⟩
        obtain ⟨p, cap, rfl, -⟩ := owns_open g2
        rw [unhide HL]
        have HK := hide g1.keeps
        clear g1 g2 S H2
        go_wp2_with fail
        go_ret
        exact ⟨rfl, (unhide HK).asBelow⟩
      · obtain ⟨e1, e2, e3⟩ := unhide HA h0
        have S := hide (Has.scanR (unhide H2) (unhide HOK) 8)
        rw [e2, e3] at S
        rw [e1]
        have hkb : ((k : Int) == 0) = false := by simpa using (show (k : Int) ≠ 0 by omega)
        clear e1 e2 e3 HF HA
        go_wp2_with fail
        refine (unhide S).mono ?_
        rintro e w4 ⟨v, rfl, ⟨C, g1, ⟨-, g2⟩, -, -⟩, -⟩
        obtain ⟨p, cap, rfl, hat⟩ := owns_open g2
        obtain ⟨g, rfl, -, hr0⟩ := hat 0 (by decide)
        obtain ⟨g', eg, -, hr3⟩ := hat 3 (by decide)
        obtain rfl : g = g' := by simpa using eg
        have c0 : w4.cell? ⟨g, 0, none⟩ = some (.int .i64 2) := hr0 0 _ rfl
        have c3 : w4.cell? ⟨g, 12, none⟩ = some (.int .i64 9) := hr3 0 _ rfl
        have HK := hide g1.keeps
        clear g1 g2 S H2 hat eg hr0 hr3
        go_wp2_with fail
        go_ret
        exact ⟨rfl, (unhide HK).asBelow⟩

set_option maxRecDepth 100000 in
theorem lifted (os : Os) (started : os.Started) (H : Type) (enc : TypeId × Value → H) :
    ReturnsInHanded {} Try.checked os 7 .any (Rows.rlogAgainSpec.pre6 enc Try.prog Try.f7 Rows.rlogAgainRow.domain false) (Rows.rlogAgainSpec.post enc Try.prog Try.f7 false true false false) := by
  refine law_frame (C := Try.checked) (ts := [3, 3]) (tb := 4) (by kernel_rfl) started (by kernel_rfl) Try.func7 Try.params7 (by kernel_rfl) Try.underlying4 (by kernel_rfl) (by kernel_rfl) rfl ?_
    (ChangeSpec.witness6 (enc := enc) (C := Try.checked) false ⟨#[], #[.int .i64 0, .int .i64 0], []⟩ 8 (by kernel_rfl) (by kernel_rfl) (by kernel_rfl) (by kernel_rfl)) ?_
  · intro ds hd
    match ds, hd with
    | [d0, d1], _ => rfl
  · intro W base args ds p hval hA
    obtain ⟨v0, vs0, d0, ds0, p0, q0, hargs, rfl, rfl, h0, r0⟩ := trodAll_cons hA
    obtain ⟨v1, vs1, d1, ds1, p1, q1, rfl, rfl, rfl, h1, r1⟩ := trodAll_cons r0
    obtain ⟨rfl, rfl, rfl⟩ := trodAll_nil r1
    obtain rfl : args = #[v0, v1] := by cases args; simp_all
    obtain ⟨x, rfl, rfl, rfl, wx⟩ := open_int Try.underlying3 (hval 0 3 v0 rfl rfl) h0
    obtain ⟨y, rfl, rfl, rfl, wy⟩ := open_int Try.underlying3 (hval 1 3 v1 rfl rfl) h1
    exact walk x y wx wy W

theorem over : Rows.rlogAgainRow.holds Try.pinned (OpenSpec.ofChange Rows.rlogAgainSpec) :=
  OpenClaim.holds_of_wide 7 Try.f7 rfl rfl rfl rfl rfl rfl rfl ⟨rfl, rfl, rfl, rfl, rfl⟩ rfl rfl rfl rfl rfl (by kernel_rfl) Try.func7 (by kernel_rfl)
    (of_decide_eq_true (by kernel_rfl)) (by unfold Func.isWrapper; first | (rw [if_pos (by decide +kernel)]; kernel_rfl) | (rw [if_neg (by decide +kernel)]; exact ⟨rfl, rfl⟩))
    (fun os started H enc _ => lifted os started H enc)

end Go.Proofs.Ytjidekjeibdbgaa.rlogAgain
namespace Go.Proofs.Ytjidekjeibdbgaa
theorem rlogAgain_holds : Rows.RlogAgainSaid := rlogAgain.over
end Go.Proofs.Ytjidekjeibdbgaa
