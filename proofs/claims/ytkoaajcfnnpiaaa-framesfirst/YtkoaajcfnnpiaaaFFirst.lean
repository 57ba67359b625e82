/-
  For every word, FramesFirst returns true: Alloc tells the first line that is free, and one that is taken is refused. No condition.
-/
import Derived.Test.YtkoaajcfnnpiaaaFHas
import Derived.Laws.BitsAllLaws
import Derived.Test.YtkoaajcfnnpiaaaLaw
import Derived.Test.YtkoaajcfnnpiaaaRows
namespace Go.Proofs.Ytkoaajcfnnpiaaa.framesFirst
open Go.ChangeShapes Go.WideShapes Go.ChangeAt Go.RowKit Go.Joins
set_option linter.unusedVariables false
set_option linter.unusedSimpArgs false

/-- The bit i of a word. -/
def bit (z : Int) (i : Nat) : Bool := z.toNat.testBit i
/-- Of the lines below k those are taken whose bit is set. -/
def tb (z : Int) (k : Nat) : Fr := ⟨0, 32, fun j => if j < k ∧ bit z j = true then 1 else 0⟩
/-- The first line below k whose bit is not set, or -1. -/
def fst (z : Int) : Nat → Int
  | 0 => -1
  | k + 1 => if fst z k < 0 then (if bit z k = true then -1 else (k : Int)) else fst z k
theorem tb_zero (z : Int) : tb z 0 = Fr.new 0 32 := by unfold tb Fr.new; congr 1
theorem tb_none (z : Int) (k : Nat) (h : bit z k = false) : tb z (k + 1) = tb z k := by
  unfold tb
  congr 1
  funext j
  by_cases hj : j = k
  · subst hj; rw [if_neg (by simp [h]), if_neg (by simp [h])]
  · by_cases h2 : j < k ∧ bit z j = true
    · rw [if_pos h2, if_pos ⟨by omega, h2.2⟩]
    · rw [if_neg h2, if_neg (fun q => h2 ⟨by omega, q.2⟩)]
theorem tb_put (z : Int) (k : Nat) (h : bit z k = true) : (tb z k).put k 1 = tb z (k + 1) := by
  unfold tb Fr.put
  congr 1
  funext j
  by_cases hj : j = k
  · subst hj; rw [upd_same, if_pos ⟨by omega, h⟩]
  · rw [upd_other _ _ _ _ hj]
    by_cases h2 : j < k ∧ bit z j = true
    · rw [if_pos ⟨by omega, h2.2⟩]; exact if_pos h2
    · rw [if_neg (fun q => h2 ⟨by omega, q.2⟩)]; exact if_neg h2
theorem tb_isF (z : Int) (m k : Nat) (hk : k < 32) : (tb z m).isF (k : Int) := ⟨by show ((0 : Nat) : Int) ≤ _; omega, by show _ < ((32 : Nat) : Int); omega⟩
theorem tb_take (z : Int) (k : Nat) (hk : k < 32) (h : bit z k = true) : (tb z k).turnA (k : Int) 0 1 = tb z (k + 1) ∧ (tb z k).turnE (k : Int) 0 = 0 := by
  have hs : (tb z k).s k = 0 := if_neg (by omega)
  refine ⟨?_, ?_⟩
  · unfold Fr.turnA
    have h1 : (tb z k).st (k : Int) = 0 := by rw [st_nat, if_pos ⟨Nat.zero_le _, hk⟩, hs]
    rw [h1, if_pos rfl]
    exact tb_put z k h
  · unfold Fr.turnE
    rw [if_pos (tb_isF z k k hk)]
    exact if_pos hs
theorem tb_again (z : Int) (k : Nat) (hk : k < 32) (h : bit z k = true) : (tb z (k + 1)).turnA (k : Int) 0 1 = tb z (k + 1) ∧ (tb z (k + 1)).turnE (k : Int) 0 = 3 ∧ (tb z (k + 1)).st (k : Int) = 1 := by
  have hs : (tb z (k + 1)).s k = 1 := if_pos ⟨by omega, h⟩
  have h1 : (tb z (k + 1)).st (k : Int) = 1 := by rw [st_nat, if_pos ⟨Nat.zero_le _, hk⟩, hs]
  refine ⟨?_, ?_, h1⟩
  · unfold Fr.turnA
    rw [h1]; rfl
  · unfold Fr.turnE
    rw [if_pos (tb_isF z _ k hk)]
    exact if_neg (by rw [show ((k : Int)).toNat = k by omega, hs]; decide)
/-- What the search comes to. -/
theorem fst_spec (z : Int) : ∀ k, (fst z k = -1 ∧ ∀ j, j < k → bit z j = true) ∨ ∃ m : Nat, m < k ∧ fst z k = (m : Int) ∧ bit z m = false ∧ ∀ j, j < m → bit z j = true
  | 0 => Or.inl ⟨rfl, fun j hj => by omega⟩
  | k + 1 => by
    rcases fst_spec z k with ⟨h1, h2⟩ | ⟨m, h1, h2, h3, h4⟩
    · rcases Bool.eq_false_or_eq_true (bit z k) with hb | hb
      · left
        refine ⟨?_, fun j hj => ?_⟩
        · unfold fst; rw [h1, if_pos (by decide), if_pos hb]
        · by_cases hjk : j = k
          · rw [hjk]; exact hb
          · exact h2 j (by omega)
      · right
        refine ⟨k, by omega, ?_, hb, h2⟩
        unfold fst; rw [h1, if_pos (by decide), if_neg (by simp [hb])]
    · right
      refine ⟨m, by omega, ?_, h3, h4⟩
      unfold fst; rw [h2, if_neg (by omega)]
theorem fst_range (z : Int) (k : Nat) : -1 ≤ fst z k ∧ fst z k < k + 1 := by
  rcases fst_spec z k with ⟨h1, h2⟩ | ⟨m, h1, h2, h3, h4⟩ <;> omega
theorem end_none (z : Int) (h : ∀ j, j < 32 → bit z j = true) : (tb z 32).first = none ∧ (tb z 32).left = 0 := by
  have h1 : ∀ i, i < 32 → (tb z 32).fr i = false := fun i hi => fr_false.2 fun q => by have := q.2; simp [tb, hi, h i hi] at this
  refine ⟨first_none h1, ?_⟩
  unfold Fr.left Fr.leftTo
  rw [List.countP_eq_zero]
  intro a ha
  rw [h1 a (List.mem_range.1 ha)]; simp
theorem end_some (z : Int) (m : Nat) (hm : m < 32) (h : bit z m = false) (h2 : ∀ j, j < m → bit z j = true) : (tb z 32).first = some m :=
  first_some hm (fr_iff.2 ⟨Nat.zero_le _, by simp [tb, h]⟩) (fun i hi => fr_false.2 fun q => by have := q.2; simp [tb, show i < 32 by omega, h2 i hi] at this)

theorem bit_eq (z : Int) (i : Nat) (h0 : 0 ≤ z) (h1 : z ≤ 18446744073709551615) : bits .and .u64 (z / 2 ^ i) 1 = if bit z i = true then 1 else 0 := by
  have hw : z.toNat / 2 ^ i ≤ z.toNat := Nat.div_le_self _ _
  have hs : z / 2 ^ i = ((z.toNat / 2 ^ i : Nat) : Int) := by
    obtain ⟨Z, rfl⟩ := Int.eq_ofNat_of_zero_le h0
    rw [show (2 : Int) ^ i = ((2 ^ i : Nat) : Int) by simp, Int.toNat_natCast, Int.natCast_ediv]
  rw [hs, show (1 : Int) = ((1 : Nat) : Int) by rfl, u64_and_nat _ _ (by omega) (by omega), Nat.and_one_is_mod]
  unfold bit
  rw [Nat.testBit_eq_decide_div_mod_eq]
  by_cases h : z.toNat / 2 ^ i % 2 = 1
  · rw [h]; simp
  · rw [show z.toNat / 2 ^ i % 2 = 0 by omega]; simp

set_option maxRecDepth 100000 in
theorem walk (z : Int) (wz : (Lit.int .u64 z).wf = true) (W : World) :
    Calls Try.prog 7 #[.int .u64 z] W fun e W' => e = .returned (.bool true) ∧ Below W.heap.size W W' := by
  have hz : 0 ≤ z ∧ z ≤ 18446744073709551615 := by
    simp [Lit.wf, IntKind.min, IntKind.max, IntKind.signed, IntKind.bits] at wz; omega
  have HZ := hide hz
  clear hz wz
  go_enter Try.func7, Try.ntmps7
  go_wp2_with fail
  refine (fshown_any W).mono ?_
  rintro e w0 ⟨rfl, hk0⟩
  go_wp2_with fail
  refine (fnew_any w0 0 32 (by decide) (by decide)).mono ?_
  intro e w1 hm
  obtain ⟨p, rfl, h0, -⟩ := fmade_has W hk0 (new_ok (by decide) (by decide)) hm (fun _ => False) (fun _ h => h.elim)
  rw [← tb_zero z] at h0
  have H0 := hide h0
  clear hm h0 hk0
  go_wp2_with fail
  go_loopw [6, 7] (fun f i wr => ∃ j : Nat, j ≤ 32 ∧ f = .int .i64 (fst z j) ∧ i = .int .i64 j ∧ FHas W wr (fun _ => False) p (tb z j)) (fun _ i _ => 32 - (intOf i).toNat)
  case atStart => exact ⟨0, by omega, rfl, rfl, unhide H0⟩
  case round =>
    clear H0
    obtain ⟨j, hj, rfl, rfl, hA⟩ := hrel
    have HA := hide hA
    clear hA
    obtain ⟨x, hx⟩ : ∃ x, x = fst z j := ⟨_, rfl⟩
    rw [← hx]
    have HX := hide hx
    have hxr := fst_range z j
    rw [← hx] at hxr
    clear hx
    by_cases hlt : j < 32
    · have hj0 : (0 : Int) ≤ (j : Int) := by omega
      have hj32 : (j : Int) < 32 := by omega
      have hbit := bit_eq z j (unhide HZ).1 (unhide HZ).2
      rcases Bool.eq_false_or_eq_true (bit z j) with hb | hb
      · rw [if_pos hb] at hbit
        have HN : Hid (fst z (j + 1) = x) := by
          show fst z (j + 1) = x
          have hxx := unhide HX
          unfold fst
          by_cases h0 : fst z j < 0
          · rw [if_pos h0, if_pos hb]; omega
          · rw [if_neg h0, hxx]
        obtain ⟨e1, e2⟩ := tb_take z j hlt hb
        obtain ⟨e3, e4, e5⟩ := tb_again z j hlt hb
        have HB := hide hb
        clear hb
        go_wp2_with fail
        refine ((unhide HA).take (j : Int)).mono ?_
        rintro e w2 ⟨rfl, h2, -⟩
        rw [e1] at h2
        rw [e2]
        have H2 := hide h2
        clear h2 HA e1 e2
        go_wp2_with fail
        refine ((unhide H2).take (j : Int)).mono ?_
        rintro e w3 ⟨rfl, h3, -⟩
        rw [e3] at h3
        rw [e4]
        have H3 := hide h3
        clear h3 H2 e3 e4
        have CS := hide ((unhide H3).state (j : Int))
        rw [e5] at CS
        clear e5
        go_wp2_with (go_at_call 41; refine (unhide CS).mono ?_; rintro e w3 ⟨rfl, rfl⟩)
        go_roundw
        case rel => exact ⟨j + 1, by omega, by rw [unhide HN], by go_num, unhide H3⟩
        case measure => simp [intOf]; omega
      · rw [if_neg (by simp [hb])] at hbit
        have HT : Hid (FHas W wr (fun _ => False) p (tb z (j + 1))) := by rw [tb_none z j hb]; exact unhide HA
        by_cases h0 : x < 0
        · have HN : Hid (fst z (j + 1) = (j : Int)) := by
            show fst z (j + 1) = _
            have hxx := unhide HX
            unfold fst
            rw [if_pos (by omega), if_neg (by simp [hb])]
          clear hb HA
          go_wp2_with fail
          go_roundw
          case rel => exact ⟨j + 1, by omega, by rw [unhide HN], by go_num, unhide HT⟩
          case measure => simp [intOf]; omega
        · have HN : Hid (fst z (j + 1) = x) := by
            show fst z (j + 1) = _
            have hxx := unhide HX
            unfold fst
            rw [if_neg (by omega)]; exact hxx.symm
          clear hb HA
          go_wp2_with fail
          go_roundw
          case rel => exact ⟨j + 1, by omega, by rw [unhide HN], by go_num, unhide HT⟩
          case measure => simp [intOf]; omega
    · obtain rfl : j = 32 := by omega
      rcases fst_spec z 32 with ⟨h1, h2⟩ | ⟨m, h1, h2, h3, h4⟩
      · obtain ⟨f1, f2⟩ := end_none z h2
        have ea : (tb z 32).allocA = tb z 32 := by unfold Fr.allocA; rw [f1]
        have ee : (tb z 32).allocE = 10 := by unfold Fr.allocE; rw [f1]
        have ev : (tb z 32).allocV = 0 := by unfold Fr.allocV; rw [f1]
        have hxx := unhide HX
        rw [h1] at hxx
        subst hxx
        clear h1 h2 f1 hxr HX
        go_wp2_with fail
        refine ((unhide HA).allocate).mono ?_
        rintro e w2 ⟨rfl, h2, -⟩
        rw [ea] at h2
        rw [ee, ev]
        have H2 := hide h2
        clear h2 HA ea ee ev
        have CL := hide ((unhide H2).left)
        rw [f2] at CL
        clear f2
        go_wp2_with (go_at_call 39; refine (unhide CL).mono ?_; rintro e w2 ⟨rfl, rfl⟩)
        go_ret
        exact ⟨rfl, (unhide H2).keeps.below (Nat.le_refl _) (fun _ h => h.elim)⟩
      · have f1 := end_some z m h1 h3 h4
        have ea : (tb z 32).allocA = (tb z 32).put m 1 := by unfold Fr.allocA; rw [f1]
        have ee : (tb z 32).allocE = 0 := by unfold Fr.allocE; rw [f1]
        have ev : (tb z 32).allocV = (m : Int) := by unfold Fr.allocV; rw [f1]
        have es : ((tb z 32).put m 1).st (m : Int) = 1 := by
          rw [st_nat, if_pos ⟨Nat.zero_le _, h1⟩]; exact upd_same _ _ _
        have hxx := unhide HX
        rw [h2] at hxx
        subst hxx
        have hm0 : ¬ ((m : Int) < 0) := by omega
        clear h2 h3 h4 f1 hxr HX
        go_wp2_with fail
        refine ((unhide HA).allocate).mono ?_
        rintro e w2 ⟨rfl, h2, -⟩
        rw [ea] at h2
        rw [ee, ev]
        have H2 := hide h2
        clear h2 HA ea ee ev
        have CL := hide ((unhide H2).state (m : Int))
        rw [es] at CL
        clear es
        go_wp2_with (go_at_call 41; refine (unhide CL).mono ?_; rintro e w2 ⟨rfl, rfl⟩)
        go_ret
        exact ⟨rfl, (unhide H2).keeps.below (Nat.le_refl _) (fun _ h => h.elim)⟩

set_option maxRecDepth 100000 in
theorem lifted (os : Os) (started : os.Started) (H : Type) (enc : TypeId × Value → H) :
    ReturnsInHanded {} Try.checked os 7 .any (Rows.framesFirstSpec.pre6 enc Try.prog Try.f7 Rows.framesFirstRow.domain false) (Rows.framesFirstSpec.post enc Try.prog Try.f7 false true false false) := by
  refine law_frame (C := Try.checked) (ts := [32]) (tb := 4) (by kernel_rfl) started (by kernel_rfl) Try.func7 Try.params7 (by kernel_rfl) Try.underlying4 (by kernel_rfl) (by kernel_rfl) rfl ?_
    (ChangeSpec.witness6 (enc := enc) (C := Try.checked) false ⟨#[], #[.int .u64 0], []⟩ 8 (by kernel_rfl) (by kernel_rfl) (by kernel_rfl) (by kernel_rfl)) ?_
  · intro ds hd
    match ds, hd with
    | [d0], _ => rfl
  · intro W base args ds p hval hA
    obtain ⟨v0, vs0, d0, ds0, p0, q0, hargs, rfl, rfl, h0, r0⟩ := trodAll_cons hA
    obtain ⟨rfl, rfl, rfl⟩ := trodAll_nil r0
    obtain rfl : args = #[v0] := by cases args; simp_all
    obtain ⟨z, rfl, rfl, rfl, wz⟩ := open_int Try.underlying32 (hval 0 32 v0 rfl rfl) h0
    exact walk z wz W

theorem over : Rows.framesFirstRow.holds Try.pinned (OpenSpec.ofChange Rows.framesFirstSpec) :=
  OpenClaim.holds_of_wide 7 Try.f7 rfl rfl rfl rfl rfl rfl rfl ⟨rfl, rfl, rfl, rfl, rfl⟩ rfl rfl rfl rfl rfl (by kernel_rfl) Try.func7 (by kernel_rfl)
    (of_decide_eq_true (by kernel_rfl)) (by unfold Func.isWrapper; first | (rw [if_pos (by decide +kernel)]; kernel_rfl) | (rw [if_neg (by decide +kernel)]; exact ⟨rfl, rfl⟩))
    (fun os started H enc _ => lifted os started H enc)

end Go.Proofs.Ytkoaajcfnnpiaaa.framesFirst
namespace Go.Proofs.Ytkoaajcfnnpiaaa
theorem framesFirst_holds : Rows.FramesFirstSaid := framesFirst.over
end Go.Proofs.Ytkoaajcfnnpiaaa
