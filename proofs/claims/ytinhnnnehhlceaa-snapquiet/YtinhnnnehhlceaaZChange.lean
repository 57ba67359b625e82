
/-
  What the statements change ahead of a checkpoint, and in between.
-/
import Derived.Test.YtinhnnnehhlceaaZLaw
import Derived.Test.YtinhnnnehhlceaaPkIv
namespace Go.Proofs.Ytinhnnnehhlceaa
open Go.ChangeShapes Go.WideShapes Go.ChangeAt Go.RowKit Go.Joins
set_option maxRecDepth 100000
set_option linter.unusedVariables false
set_option linter.unusedSimpArgs false

def chS (S : Sto) (A : Mm) (p : OOp) : Sto :=
  if kindN p.kind 4 < 2 then S.setS A (kindN p.id 20 : Nat) (kindN p.word 8 : Nat) p.v
  else if kindN p.kind 4 = 2 then S.makeS A (1 + (kindN p.word 2 : Nat) : Int) else S.endS (kindN p.id 20 : Nat)
def chM (S : Sto) (A : Mm) (p : OOp) : Mm :=
  if kindN p.kind 4 < 2 then S.setM A (kindN p.id 20 : Nat) (kindN p.word 8 : Nat) p.v
  else if kindN p.kind 4 = 2 then S.makeM A (1 + (kindN p.word 2 : Nat) : Int) else A

set_option maxHeartbeats 8000000 in
theorem change_any {W w : World} {m b : Nat} {St : Mm → World → (Nat → Prop) → Prop} {S : Sto} {A : Mm} {G : Nat → Prop} (M : MemL W m St) (h : SHas W m b St S A w G) (hS : S.ok) (hA : A.ok 800) (kd id wd v : Int) (hp : In64 kd ∧ In64 id ∧ In64 wd ∧ InU v) :
    Calls Try.prog 7 #[.pointer (some ⟨b, 0, none⟩), .agg #[.int .i64 kd, .int .i64 id, .int .i64 wd, .int .u64 v]] w (Done (SHas W m b St (chS S A ⟨kd, id, wd, v⟩) (chM S A ⟨kd, id, wd, v⟩)) w G (.tuple #[])) := by
  obtain ⟨p1, p2, p3, p4⟩ := hp
  have T0 := hide (SHas.stay M b S A)
  have O0 := hide ((Held.start (unhide T0) h).alloc (unhide T0) (.cells #[.int .i64 kd, .int .i64 id, .int .i64 wd, .int .u64 v] 32))
  have C4 := hide (zkind_any kd p1 4 (by decide) (by decide))
  have CC : Hid (∀ {g : Nat} (w' : World), w'.heap[g]? = some (.cells #[.int .i64 kd, .int .i64 id, .int .i64 wd, .int .u64 v] 32 (0, 0)) → w'.cell? ⟨g, 0, none⟩ = some (.int .i64 kd) ∧ w'.cell? ⟨g, 1, none⟩ = some (.int .i64 id) ∧ w'.cell? ⟨g, 2, none⟩ = some (.int .i64 wd) ∧ w'.cell? ⟨g, 3, none⟩ = some (.int .u64 v)) := fun w' h => by
    refine ⟨?_, ?_, ?_, ?_⟩ <;> rw [cell_of_block h] <;> rfl
  have k4 := kindN_lt kd 4 (by decide)
  have eS : Hid (chS S A ⟨kd, id, wd, v⟩ = if kindN kd 4 < 2 then S.setS A (kindN id 20 : Nat) (kindN wd 8 : Nat) v else if kindN kd 4 = 2 then S.makeS A (1 + (kindN wd 2 : Nat) : Int) else S.endS (kindN id 20 : Nat)) := rfl
  have eM : Hid (chM S A ⟨kd, id, wd, v⟩ = if kindN kd 4 < 2 then S.setM A (kindN id 20 : Nat) (kindN wd 8 : Nat) v else if kindN kd 4 = 2 then S.makeM A (1 + (kindN wd 2 : Nat) : Int) else A) := rfl
  have CI := hide (zkind_any id p2 20 (by decide) (by decide))
  have CW := hide (zkind_any wd p3 8 (by decide) (by decide))
  have CW2 := hide (zkind_any wd p3 2 (by decide) (by decide))
  have CS := hide (fun (w' : World) (G' : Nat → Prop) (h' : SHas W m b St S A w' G') => set_any M h' hS hA (kindN id 20 : Nat) (kindN wd 8 : Nat) v p4)
  have CM := hide (fun (w' : World) (G' : Nat → Prop) (h' : SHas W m b St S A w' G') => make_any M h' hS (ok_mono hA (by omega)) (1 + (kindN wd 2 : Nat) : Int))
  have CE := hide (fun (w' : World) (G' : Nat → Prop) (h' : SHas W m b St S A w' G') => end_obj M h' hS (kindN id 20 : Nat))
  have l20 := kindN_lt id 20 (by decide)
  have l8 := kindN_lt wd 8 (by decide)
  have l2 := kindN_lt wd 2 (by decide)
  clear h hS hA p1 p2 p3 p4
  generalize chS S A ⟨kd, id, wd, v⟩ = S2 at *
  generalize chM S A ⟨kd, id, wd, v⟩ = A2 at *
  generalize kindN kd 4 = kk at *
  generalize kindN id 20 = ii at *
  generalize kindN wd 8 = ww at *
  generalize kindN wd 2 = uu at *
  generalize S.setE A (ii : Int) (ww : Int) v = ee at *
  generalize S.findE (ii : Int) = fe at *
  generalize S.makeI A (1 + (uu : Int)) = mi at *
  generalize S.makeE A (1 + (uu : Int)) = me at *
  by_cases h2 : kk < 2
  · rw [if_pos h2] at eS eM
    generalize S.setS A (ii : Int) (ww : Int) v = S3 at *
    generalize S.setM A (ii : Int) (ww : Int) v = A3 at *
    have hk : Hid (kk = 0 ∨ kk = 1) := by show _ ∨ _; omega
    have hd : ((kk : Int) == 0 || (kk : Int) == 1) = true := by
      rcases unhide hk with e | e <;> rw [e] <;> rfl
    go_enter Try.func7, Try.ntmps7
    go_upto_region 1 with fail
    obtain ⟨g, hg⟩ : ∃ g, g = w.heap.size := ⟨_, rfl⟩
    rw [← hg] at O0 ⊢
    clear hg
    generalize w.alloc (.cells #[.int .i64 kd, .int .i64 id, .int .i64 wd, .int .u64 v] 32) = w1 at *
    obtain ⟨c0, c1, c2, c3⟩ := unhide CC _ ((unhide O0).at g (.cells #[.int .i64 kd, .int .i64 id, .int .i64 wd, .int .u64 v] 32) (by simp))
    go_wp2_with fail
    refine (unhide C4 _).mono ?_
    rintro e w1 ⟨rfl, rfl⟩
    clear C4
    rcases unhide hk with e | e
    · subst e
      go_upto_region 4 with fail
      have O1 := hide ((unhide O0).drew (unhide T0))
      refine wp_region_noPanic ?_
      refine wp_region_held_drew (S := fun w' => w'.cell? ⟨g, 1, none⟩ = some (.int .i64 id) ∧ w'.cell? ⟨g, 2, none⟩ = some (.int .i64 wd) ∧ w'.cell? ⟨g, 3, none⟩ = some (.int .u64 v)) (by kernel_rfl) ⟨c1, c2, c3⟩ (fun hHeld => ?_)
      clear O0 c0 c1 c2 c3
      generalize w1.drew = w2 at *
      refine take_at 0 10 (v := ?_) rfl rfl (by kernel_rfl) (by kernel_rfl) (by kernel_rfl) (Or.inl ⟨by rfl, ?_⟩) hHeld ?_
      rotate_left
      · intro w hSw; go_simp; with_reducible rfl
      simp only [Act.put, List.setIfInBounds_toArray, List.set_cons_zero, List.set_cons_succ]
      refine take_at 1 11 (v := ?_) rfl rfl (by kernel_rfl) (by kernel_rfl) (by kernel_rfl) (Or.inl ⟨by rfl, ?_⟩) hHeld ?_
      rotate_left
      · intro w hSw; go_simp; with_reducible rfl
      simp only [Act.put, List.setIfInBounds_toArray, List.set_cons_zero, List.set_cons_succ]
      refine take_at 2 12 (v := ?_) rfl rfl (by kernel_rfl) (by kernel_rfl) (by kernel_rfl) (Or.inl ⟨by rfl, ?_⟩) hHeld ?_
      rotate_left
      · intro w hSw; have c := hSw.1; go_simp; with_reducible rfl
      simp only [Act.put, List.setIfInBounds_toArray, List.set_cons_zero, List.set_cons_succ]
      refine take_at 4 14 (v := ?_) rfl rfl (by kernel_rfl) (by kernel_rfl) (by kernel_rfl) (Or.inl ⟨by rfl, ?_⟩) hHeld ?_
      rotate_left
      · intro w hSw; go_simp; with_reducible rfl
      simp only [Act.put, List.setIfInBounds_toArray, List.set_cons_zero, List.set_cons_succ]
      refine take_at 5 15 (v := ?_) rfl rfl (by kernel_rfl) (by kernel_rfl) (by kernel_rfl) (Or.inl ⟨by rfl, ?_⟩) hHeld ?_
      rotate_left
      · intro w hSw; have c := hSw.2.1; go_simp; with_reducible rfl
      simp only [Act.put, List.setIfInBounds_toArray, List.set_cons_zero, List.set_cons_succ]
      refine take_at 7 17 (v := ?_) rfl rfl (by kernel_rfl) (by kernel_rfl) (by kernel_rfl) (Or.inl ⟨by rfl, ?_⟩) hHeld ?_
      rotate_left
      · intro w hSw; go_simp; with_reducible rfl
      simp only [Act.put, List.setIfInBounds_toArray, List.set_cons_zero, List.set_cons_succ]
      refine take_at 8 18 (v := ?_) rfl rfl (by kernel_rfl) (by kernel_rfl) (by kernel_rfl) (Or.inl ⟨by rfl, ?_⟩) hHeld ?_
      rotate_left
      · intro w hSw; have c := hSw.2.2; go_simp; with_reducible rfl
      simp only [Act.put, List.setIfInBounds_toArray, List.set_cons_zero, List.set_cons_succ]
      refine wpAnyH_ready (rs := [3]) (by kernel_rfl) (by simp) ?_
      refine AllReadyH.cons rfl (fun K2 hK => ?_) AllReadyH.nil
      go_simp
      refine (unhide CI _).mono ?_
      rintro e w2 ⟨rfl, rfl⟩
      go_wp2_with fail
      refine hK.out _ _ hHeld (fun hNew => ?_)
      clear hK K2 hNew
      refine wpAnyH_ready (rs := [6]) (by kernel_rfl) (by simp) ?_
      refine AllReadyH.cons rfl (fun K2 hK => ?_) AllReadyH.nil
      go_simp
      refine (unhide CW _).mono ?_
      rintro e w2 ⟨rfl, rfl⟩
      go_wp2_with fail
      refine hK.out _ _ hHeld (fun hNew => ?_)
      clear hK K2 hNew
      refine wpAnyH_ready (rs := [9]) (by kernel_rfl) (by simp) ?_
      refine AllReadyH.cons rfl (fun K2 hK => ?_) AllReadyH.nil
      go_simp
      refine (unhide CS _ _ (unhide O1).st).mono ?_
      rintro e w3 ⟨rfl, q1, q2⟩
      have O2 := hide ((unhide O1).call (St' := SHas W m b St S3 A3) q1 q2)
      clear q1 q2 O1
      have B3 := unhide CC _ ((unhide O2).at g (.cells #[.int .i64 kd, .int .i64 id, .int .i64 wd, .int .u64 v] 32) (by simp))
      go_wp2_with fail
      refine hK.out _ _ ⟨B3.2.1, B3.2.2.1, B3.2.2.2⟩ (fun hNew => ?_)
      clear hK K2 hNew hHeld
      refine wpAnyH_done (by kernel_rfl) ?_ _
      refine NoPanic.normal ?_
      go_wp2_with fail
      go_end0
      rw [unhide eS, unhide eM]
      exact (unhide O2).done (SHas.stay M b S3 A3) _
    · subst e
      go_upto_region 4 with fail
      have O1 := hide ((unhide O0).drew (unhide T0))
      refine wp_region_noPanic ?_
      refine wp_region_held_drew (S := fun w' => w'.cell? ⟨g, 1, none⟩ = some (.int .i64 id) ∧ w'.cell? ⟨g, 2, none⟩ = some (.int .i64 wd) ∧ w'.cell? ⟨g, 3, none⟩ = some (.int .u64 v)) (by kernel_rfl) ⟨c1, c2, c3⟩ (fun hHeld => ?_)
      clear O0 c0 c1 c2 c3
      generalize w1.drew = w2 at *
      refine take_at 0 10 (v := ?_) rfl rfl (by kernel_rfl) (by kernel_rfl) (by kernel_rfl) (Or.inl ⟨by rfl, ?_⟩) hHeld ?_
      rotate_left
      · intro w hSw; go_simp; with_reducible rfl
      simp only [Act.put, List.setIfInBounds_toArray, List.set_cons_zero, List.set_cons_succ]
      refine take_at 1 11 (v := ?_) rfl rfl (by kernel_rfl) (by kernel_rfl) (by kernel_rfl) (Or.inl ⟨by rfl, ?_⟩) hHeld ?_
      rotate_left
      · intro w hSw; go_simp; with_reducible rfl
      simp only [Act.put, List.setIfInBounds_toArray, List.set_cons_zero, List.set_cons_succ]
      refine take_at 2 12 (v := ?_) rfl rfl (by kernel_rfl) (by kernel_rfl) (by kernel_rfl) (Or.inl ⟨by rfl, ?_⟩) hHeld ?_
      rotate_left
      · intro w hSw; have c := hSw.1; go_simp; with_reducible rfl
      simp only [Act.put, List.setIfInBounds_toArray, List.set_cons_zero, List.set_cons_succ]
      refine take_at 4 14 (v := ?_) rfl rfl (by kernel_rfl) (by kernel_rfl) (by kernel_rfl) (Or.inl ⟨by rfl, ?_⟩) hHeld ?_
      rotate_left
      · intro w hSw; go_simp; with_reducible rfl
      simp only [Act.put, List.setIfInBounds_toArray, List.set_cons_zero, List.set_cons_succ]
      refine take_at 5 15 (v := ?_) rfl rfl (by kernel_rfl) (by kernel_rfl) (by kernel_rfl) (Or.inl ⟨by rfl, ?_⟩) hHeld ?_
      rotate_left
      · intro w hSw; have c := hSw.2.1; go_simp; with_reducible rfl
      simp only [Act.put, List.setIfInBounds_toArray, List.set_cons_zero, List.set_cons_succ]
      refine take_at 7 17 (v := ?_) rfl rfl (by kernel_rfl) (by kernel_rfl) (by kernel_rfl) (Or.inl ⟨by rfl, ?_⟩) hHeld ?_
      rotate_left
      · intro w hSw; go_simp; with_reducible rfl
      simp only [Act.put, List.setIfInBounds_toArray, List.set_cons_zero, List.set_cons_succ]
      refine take_at 8 18 (v := ?_) rfl rfl (by kernel_rfl) (by kernel_rfl) (by kernel_rfl) (Or.inl ⟨by rfl, ?_⟩) hHeld ?_
      rotate_left
      · intro w hSw; have c := hSw.2.2; go_simp; with_reducible rfl
      simp only [Act.put, List.setIfInBounds_toArray, List.set_cons_zero, List.set_cons_succ]
      refine wpAnyH_ready (rs := [3]) (by kernel_rfl) (by simp) ?_
      refine AllReadyH.cons rfl (fun K2 hK => ?_) AllReadyH.nil
      go_simp
      refine (unhide CI _).mono ?_
      rintro e w2 ⟨rfl, rfl⟩
      go_wp2_with fail
      refine hK.out _ _ hHeld (fun hNew => ?_)
      clear hK K2 hNew
      refine wpAnyH_ready (rs := [6]) (by kernel_rfl) (by simp) ?_
      refine AllReadyH.cons rfl (fun K2 hK => ?_) AllReadyH.nil
      go_simp
      refine (unhide CW _).mono ?_
      rintro e w2 ⟨rfl, rfl⟩
      go_wp2_with fail
      refine hK.out _ _ hHeld (fun hNew => ?_)
      clear hK K2 hNew
      refine wpAnyH_ready (rs := [9]) (by kernel_rfl) (by simp) ?_
      refine AllReadyH.cons rfl (fun K2 hK => ?_) AllReadyH.nil
      go_simp
      refine (unhide CS _ _ (unhide O1).st).mono ?_
      rintro e w3 ⟨rfl, q1, q2⟩
      have O2 := hide ((unhide O1).call (St' := SHas W m b St S3 A3) q1 q2)
      clear q1 q2 O1
      have B3 := unhide CC _ ((unhide O2).at g (.cells #[.int .i64 kd, .int .i64 id, .int .i64 wd, .int .u64 v] 32) (by simp))
      go_wp2_with fail
      refine hK.out _ _ ⟨B3.2.1, B3.2.2.1, B3.2.2.2⟩ (fun hNew => ?_)
      clear hK K2 hNew hHeld
      refine wpAnyH_done (by kernel_rfl) ?_ _
      refine NoPanic.normal ?_
      go_wp2_with fail
      go_end0
      rw [unhide eS, unhide eM]
      exact (unhide O2).done (SHas.stay M b S3 A3) _
  · rw [if_neg h2] at eS eM
    by_cases h3 : kk = 2
    · rw [if_pos h3] at eS eM
      subst h3
      generalize S.makeS A (1 + (uu : Int)) = S3 at *
      generalize S.makeM A (1 + (uu : Int)) = A3 at *
      go_enter Try.func7, Try.ntmps7
      go_upto_region 1 with fail
      obtain ⟨g, hg⟩ : ∃ g, g = w.heap.size := ⟨_, rfl⟩
      rw [← hg] at O0 ⊢
      clear hg
      generalize w.alloc (.cells #[.int .i64 kd, .int .i64 id, .int .i64 wd, .int .u64 v] 32) = w1 at *
      obtain ⟨c0, c1, c2, c3⟩ := unhide CC _ ((unhide O0).at g (.cells #[.int .i64 kd, .int .i64 id, .int .i64 wd, .int .u64 v] 32) (by simp))
      go_wp2_with fail
      refine (unhide C4 _).mono ?_
      rintro e w1 ⟨rfl, rfl⟩
      clear C4
      clear c0 c1 c3
      go_wp2_with fail
      refine (unhide CW2 _).mono ?_
      rintro e w1 ⟨rfl, rfl⟩
      go_wp2_with fail
      refine (unhide CM _ _ (unhide O0).st).mono ?_
      rintro e w2 ⟨rfl, q1, q2⟩
      have O1 := hide ((unhide O0).call (St' := SHas W m b St S3 A3) q1 q2)
      clear q1 q2 c2 O0
      go_wp2_with fail
      go_end0
      rw [unhide eS, unhide eM]
      exact (unhide O1).done (SHas.stay M b S3 A3) _
    · rw [if_neg h3] at eS eM
      have h4 : kk = 3 := by omega
      subst h4
      generalize S.endS (ii : Int) = S3 at *
      go_enter Try.func7, Try.ntmps7
      go_upto_region 1 with fail
      obtain ⟨g, hg⟩ : ∃ g, g = w.heap.size := ⟨_, rfl⟩
      rw [← hg] at O0 ⊢
      clear hg
      generalize w.alloc (.cells #[.int .i64 kd, .int .i64 id, .int .i64 wd, .int .u64 v] 32) = w1 at *
      obtain ⟨c0, c1, c2, c3⟩ := unhide CC _ ((unhide O0).at g (.cells #[.int .i64 kd, .int .i64 id, .int .i64 wd, .int .u64 v] 32) (by simp))
      go_wp2_with fail
      refine (unhide C4 _).mono ?_
      rintro e w1 ⟨rfl, rfl⟩
      clear C4
      clear c0 c2 c3
      go_wp2_with fail
      refine (unhide CI _).mono ?_
      rintro e w1 ⟨rfl, rfl⟩
      go_wp2_with fail
      refine (unhide CE _ _ (unhide O0).st).mono ?_
      rintro e w2 ⟨rfl, q1, q2⟩
      have O1 := hide ((unhide O0).call (St' := SHas W m b St S3 A) q1 q2)
      clear q1 q2 c1 O0
      go_wp2_with fail
      go_end0
      rw [unhide eS, unhide eM]
      exact (unhide O1).done (SHas.stay M b S3 A) _

end Go.Proofs.Ytinhnnnehhlceaa
