
/-
  Make: a new object of noughts, at the next number that is free.
-/
import Derived.Test.YtjmgmbigbkllgaaOPut
namespace Go.Proofs.Ytjmgmbigbkllgaa
open Go.ChangeShapes Go.WideShapes Go.ChangeAt Go.RowKit Go.Joins
set_option maxRecDepth 10000
set_option linter.unusedVariables false
set_option linter.unusedSimpArgs false

theorem build_zl : Try.prog.built 56 [] = some (lnV zeroL) := by kernel_rfl
theorem zeroL_inU : ∀ j, InU (zeroL j) := fun j => by show InU 0; exact ⟨by decide, by decide⟩

theorem make_none {W w : World} {m b : Nat} {St : Mm → World → (Nat → Prop) → Prop} {S : Sto} {A : Mm} {G : Nat → Prop} (M : MemL W m St) (h : SHas W m b St S A w G) (z : Int) (hz : S.nextE z ≠ 0) :
    Calls Try.prog 18 #[.pointer (some ⟨b, 0, none⟩), .int .i64 z] w (Done (SHas W m b St S A) w G (.tuple #[.int .i64 0, .int .i64 (S.nextE z)])) := by
  have T0 := hide (SHas.stay M b S A)
  have O0 := hide (Held.start (unhide T0) h)
  have CF := hide (next_any h.rep z)
  have HA : Hid (nextT S z = .tuple #[.int .i64 (S.nextI z), .int .i64 (S.nextV z), .int .i64 (S.nextE z)]) := rfl
  rw [unhide HA] at CF
  have hzb : (S.nextE z != 0) = true := by simpa using hz
  clear h HA hz
  generalize S.nextE z = E at *
  generalize S.nextI z = I at *
  generalize S.nextV z = V at *
  go_enter Try.func18, Try.ntmps18
  go_wp2_with fail
  refine (unhide CF).mono ?_
  rintro e w1 ⟨rfl, hb⟩
  have O1 := hide ((unhide O0).below (unhide T0) hb)
  clear hb CF O0
  go_wp2_with fail
  go_ret2
  exact (unhide O1).done (unhide T0) _

set_option maxHeartbeats 2000000 in
theorem make_some {W w : World} {m b : Nat} {St : Mm → World → (Nat → Prop) → Prop} {S : Sto} {A : Mm} {G : Nat → Prop} (M : MemL W m St) (h : SHas W m b St S A w G) (hS : S.ok) (hA : A.ok 900) (z : Int) (hz : S.nextE z = 0) :
    Calls Try.prog 18 #[.pointer (some ⟨b, 0, none⟩), .int .i64 z] w (Done (SHas W m b St (S.makeS A z) (S.makeM A z)) w G (.tuple #[.int .i64 (S.makeI A z), .int .i64 (S.makeE A z)])) := by
  have T0 := hide (SHas.stay M b S A)
  have O0 := hide (Held.start (unhide T0) h)
  have CF := hide (next_any h.rep z)
  obtain ⟨k, e1, hk, hop, e2, hnx, hmk⟩ := nextE_ok hz
  have HA : Hid (nextT S z = .tuple #[.int .i64 (k : Int), .int .i64 (S.nextV z), .int .i64 0]) := by show nextT S z = _; unfold nextT; rw [hz, e1]
  rw [unhide HA] at CF
  have EM : Hid (S.makeM A z = S.layM A zeroL) := if_pos hz
  have EE : Hid (S.makeE A z = S.layE A zeroL) := if_pos hz
  have EI : Hid (S.layE A zeroL = 0 → S.makeI A z = k) := fun q => (if_pos (by rw [unhide EE]; exact q)).trans e1
  have EJ : Hid (S.layE A zeroL ≠ 0 → S.makeI A z = 0) := fun q => if_neg (by rw [unhide EE]; exact q)
  have ES : Hid (S.layE A zeroL = 0 → S.makeS A z = S.took.withW k ⟨z, S.nextV z, S.F.allocV⟩) := fun q => by unfold Sto.makeS; rw [if_pos hz, if_pos q, e1, Int.toNat_natCast]
  have EZ : Hid (S.layE A zeroL ≠ 0 → S.makeS A z = S.took) := fun q => by unfold Sto.makeS; rw [if_pos hz, if_neg q]
  have CY := hide (fun (w' : World) (L : List (Nat × Obj)) (O : Held W (SHas W m b St S A) w w' G L) => lay_any M O.st hS hA zeroL zeroL_inU)
  have hk1 : (k : Int) < 49 := by omega
  clear h HA hz e1 e2 hop hnx hmk hA
  generalize S.nextV z = V at *
  obtain ⟨ZL, hZL⟩ : ∃ ZL, ZL = lnV zeroL := ⟨_, rfl⟩
  have bz := build_zl
  rw [← hZL] at CY bz
  clear hZL
  have HB := hide bz
  clear bz
  go_enter Try.func18, Try.ntmps18
  go_wp2_with fail
  refine (unhide CF).mono ?_
  rintro e w1 ⟨rfl, hb⟩
  have O1 := hide ((unhide O0).below (unhide T0) hb)
  clear hb CF O0
  go_wp2_with (with_reducible refine wpList_build0 (by with_unfolding_all rfl) 56 (by with_unfolding_all rfl) ZL (unhide HB) ?_)
  refine (unhide CY _ _ (unhide O1)).mono ?_
  rintro e w2 ⟨rfl, h1, h2⟩
  have O2 := hide ((unhide O1).call (St' := SHas W m b St S.took (S.layM A zeroL)) h1 h2)
  clear h1 h2 CY O1
  by_cases hE : S.layE A zeroL = 0
  · have hV : S.layV A zeroL = S.F.allocV := by unfold Sto.layV; rw [if_pos hE]
    have HE0 := hide hE
    rw [hE, hV]
    have ht := hide ((unhide O2).st.there3 k hk)
    have OT := hide (Held.turn (St' := SHas W m b St (S.took.withW k ⟨z, V, S.F.allocV⟩) (S.layM A zeroL)) (w' := w2.setCells b (1027 + k * 3) (ev ⟨z, V, S.F.allocV⟩).toList) (unhide O2) ((unhide O2).st.put M k hk ⟨z, V, S.F.allocV⟩))
    have HS := hide (unhide ES hE)
    have HI := hide (unhide EI hE)
    clear hE hV O2 ES EZ EI EJ
    generalize S.F.allocV = X at *
    go_wp2_with (with_reducible refine wpList_store_en (by with_unfolding_all rfl) _ _ (by with_unfolding_all rfl) b (1027 + k * 3) ⟨z, V, X⟩ (by with_unfolding_all rfl) (by with_unfolding_all rfl) (unhide ht) ?_)
    go_ret2
    rw [unhide EM, unhide EE, unhide HS, unhide HI, unhide HE0]
    exact (unhide OT).done (SHas.stay M b _ _) _
  · have HS := hide (unhide EZ hE)
    have HI := hide (unhide EJ hE)
    have hEb : (S.layE A zeroL != 0) = true := by simpa using hE
    clear hE ES EZ EI EJ
    obtain ⟨EL, hEL⟩ : ∃ EL, EL = S.layE A zeroL := ⟨_, rfl⟩
    have HEL := hide hEL
    rw [← hEL] at hEb ⊢
    clear hEL
    generalize S.layV A zeroL = X at *
    go_wp2_with fail
    go_ret2
    rw [unhide EM, unhide EE, unhide HS, unhide HI, ← unhide HEL]
    exact (unhide O2).done (SHas.stay M b _ _) _

theorem make_any {W w : World} {m b : Nat} {St : Mm → World → (Nat → Prop) → Prop} {S : Sto} {A : Mm} {G : Nat → Prop} (M : MemL W m St) (h : SHas W m b St S A w G) (hS : S.ok) (hA : A.ok 900) (z : Int) :
    Calls Try.prog 18 #[.pointer (some ⟨b, 0, none⟩), .int .i64 z] w (Done (SHas W m b St (S.makeS A z) (S.makeM A z)) w G (.tuple #[.int .i64 (S.makeI A z), .int .i64 (S.makeE A z)])) := by
  by_cases hz : S.nextE z = 0
  · exact make_some M h hS hA z hz
  · have e1 : S.makeM A z = A := if_neg hz
    have e2 : S.makeE A z = S.nextE z := if_neg hz
    have e3 : S.makeI A z = 0 := if_neg (by rw [e2]; exact hz)
    have e4 : S.makeS A z = S := by unfold Sto.makeS; rw [if_neg hz]
    rw [e1, e2, e3, e4]
    exact make_none M h z hz

end Go.Proofs.Ytjmgmbigbkllgaa
