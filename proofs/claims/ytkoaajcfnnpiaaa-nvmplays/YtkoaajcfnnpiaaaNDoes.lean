/-
  What the law's does does: both memories do the call, and stay alike.
-/
import Derived.Test.YtkoaajcfnnpiaaaNTwo
namespace Go.Proofs.Ytkoaajcfnnpiaaa
open Go.ChangeShapes Go.WideShapes Go.ChangeAt Go.RowKit Go.Joins
set_option maxRecDepth 10000
set_option linter.unusedVariables false
set_option linter.unusedSimpArgs false
set_option maxRecDepth 100000

theorem Same.cell {G : Nat → Prop} {w w' : World} (h : Same G w w') {L : Nat} (hL : G L) (i : Nat) : w'.cell? ⟨L, i, none⟩ = w.cell? ⟨L, i, none⟩ := by
  unfold World.cell?
  rw [h L hL]
section
variable {W w : World} {G : Nat → Prop} {b y : Nat} {A : Mm}
def Did (W w : World) (G : Nat → Prop) (b y : Nat) (A2 : Mm) (e : Ending) (w' : World) : Prop := e = .returned (.bool true) ∧ Two W w' G b y A2 A2 ∧ Same G w w'

theorem does_fence (h : Two W w G b y A A) (hok : A.ok 999) (p : OpV) (hk : kindN p.kind 12 = 6) (k64 : In64 p.kind) :
    Calls Try.prog 18 #[.pointer (some ⟨b, 0, none⟩), .pointer (some ⟨y, 0, none⟩), .agg (opV p)] w (Did W w G b y (A.fenceZ p.core)) := by
  have H := hide h
  have OP := opIn_new w p 35
  obtain ⟨f0, f1, f2, f3, f4, f5⟩ := OP
  have hst := store_op p
  clear h
  go_enter Try.func18, Try.ntmps18
  go_wp2_with fail
  refine (kind_any p.kind k64 12 (by decide) (by decide) _).mono ?_
  rintro e V ⟨rfl, rfl⟩
  rw [hk]
  have HX := hide ((unhide H).alloc (.cells (opV p) 35))
  have HSA : Hid (Same G w (w.alloc (.cells (opV p) 35))) := fun k hk => Below.heap_alloc _ _ _ ((unhide H).lt k hk)
  obtain ⟨L, hL⟩ : ∃ L, L = w.heap.size := ⟨_, rfl⟩
  rw [← hL] at f0 f1 f2 f3 f4 f5 HX ⊢
  generalize w.alloc (.cells (opV p) 35) = X at *
  clear hst hL hk H
  go_wp2_with fail
  refine wp_region_noPanic ?_
  refine wp_region_held_drew (S := fun w' => w'.cell? ⟨L, 1, none⟩ = some (.int .i64 p.core)) (by kernel_rfl) f1 (fun hHeld => ?_)
  refine take_at 0 54 (v := ?_) rfl rfl (by kernel_rfl) (by kernel_rfl) (by kernel_rfl) (Or.inl ⟨by rfl, ?_⟩) hHeld ?_
  rotate_left
  · intro w hSw; go_simp; with_reducible rfl
  simp only [Act.put, List.setIfInBounds_toArray, List.set_cons_zero, List.set_cons_succ]
  refine take_at 1 55 (v := ?_) rfl rfl (by kernel_rfl) (by kernel_rfl) (by kernel_rfl) (Or.inl ⟨by rfl, ?_⟩) hHeld ?_
  rotate_left
  · intro w hSw; go_simp; with_reducible rfl
  simp only [Act.put, List.setIfInBounds_toArray, List.set_cons_zero, List.set_cons_succ]
  refine take_at 2 56 (v := ?_) rfl rfl (by kernel_rfl) (by kernel_rfl) (by kernel_rfl) (Or.inl ⟨by rfl, ?_⟩) hHeld ?_
  rotate_left
  · intro w hSw; go_simp; with_reducible rfl
  simp only [Act.put, List.setIfInBounds_toArray, List.set_cons_zero, List.set_cons_succ]
  refine take_at 4 58 (v := ?_) rfl rfl (by kernel_rfl) (by kernel_rfl) (by kernel_rfl) (Or.inl ⟨by rfl, ?_⟩) hHeld ?_
  rotate_left
  · intro w hSw; go_simp; with_reducible rfl
  simp only [Act.put, List.setIfInBounds_toArray, List.set_cons_zero, List.set_cons_succ]
  refine take_at 5 59 (v := ?_) rfl rfl (by kernel_rfl) (by kernel_rfl) (by kernel_rfl) (Or.inl ⟨by rfl, ?_⟩) hHeld ?_
  rotate_left
  · intro w hSw; go_simp; with_reducible rfl
  simp only [Act.put, List.setIfInBounds_toArray, List.set_cons_zero, List.set_cons_succ]
  refine take_at 6 60 (v := ?_) rfl rfl (by kernel_rfl) (by kernel_rfl) (by kernel_rfl) (Or.inl ⟨by rfl, ?_⟩) hHeld ?_
  rotate_left
  · intro w hSw; go_simp; with_reducible rfl
  simp only [Act.put, List.setIfInBounds_toArray, List.set_cons_zero, List.set_cons_succ]
  have C1 := hide ((unhide HX).drew.fenceL (ok_mono hok (by omega)) p.core)
  have HSV : Hid (Same G w X.drew) := unhide HSA
  generalize X.drew = V at *
  refine wpAnyH_ready (rs := [3]) (by kernel_rfl) (by simp) ?_
  refine AllReadyH.cons rfl (fun K hK => ?_) AllReadyH.nil
  go_simp
  refine (unhide C1).mono ?_
  rintro e V1 ⟨rfl, hT, hS⟩
  have s1 := (hS.cell (Or.inr rfl) 1).trans hHeld
  have HS1 : Hid (Same G w V1) := (unhide HSV).trans (fun k hk => hS k (Or.inl hk))
  have C2 := hide (hT.fenceR (ok_mono hok (by omega)) p.core)
  clear hT hS HSA HSV C1 HX f0 f1 f2 f3 f4 f5
  go_wp2_with fail
  refine hK.out _ _ s1 (fun hNew => ?_)
  clear hK K hHeld hNew
  have hHeld := s1
  clear s1
  try simp only [Act.put, List.setIfInBounds_toArray]
  refine wpAnyH_ready (rs := [7]) (by kernel_rfl) (by simp) ?_
  refine AllReadyH.cons rfl (fun K hK => ?_) AllReadyH.nil
  go_simp
  refine (unhide C2).mono ?_
  rintro e V2 ⟨rfl, hT, hS⟩
  have s1 := (hS.cell (Or.inr rfl) 1).trans hHeld
  have HS2 : Hid (Same G w V2) := (unhide HS1).trans (fun k hk => hS k (Or.inl hk))
  have HT2 : Hid (Two W V2 G b y (A.fenceZ p.core) (A.fenceZ p.core)) := hT.less fun k hk => Or.inl hk
  clear hT hS HS1 C2
  go_wp2_with fail
  refine hK.out _ _ s1 (fun hNew => ?_)
  clear hK K hHeld hNew
  have hHeld := s1
  clear s1
  try simp only [Act.put, List.setIfInBounds_toArray]
  refine take_at 8 62 (v := ?_) rfl rfl (by kernel_rfl) (by kernel_rfl) (by kernel_rfl) (Or.inl ⟨by rfl, ?_⟩) hHeld ?_
  rotate_left
  · intro w hSw; go_simp; with_reducible rfl
  simp only [Act.put, List.setIfInBounds_toArray, List.set_cons_zero, List.set_cons_succ]
  refine take_at 9 6 (v := ?_) rfl rfl (by kernel_rfl) (by kernel_rfl) (by kernel_rfl) (Or.inl ⟨by rfl, ?_⟩) hHeld ?_
  rotate_left
  · intro w hSw; go_simp; with_reducible rfl
  simp only [Act.put, List.setIfInBounds_toArray, List.set_cons_zero, List.set_cons_succ]
  refine wpAnyH_done (by kernel_rfl) ?_ _
  refine NoPanic.normal ?_
  clear hHeld
  go_wp2_with fail
  go_ret
  exact ⟨rfl, unhide HT2, unhide HS2⟩

theorem does_flush (h : Two W w G b y A A) (hok : A.ok 999) (p : OpV) (hk : kindN p.kind 12 = 5) (k64 : In64 p.kind) :
    Calls Try.prog 18 #[.pointer (some ⟨b, 0, none⟩), .pointer (some ⟨y, 0, none⟩), .agg (opV p)] w (Did W w G b y (A.flushZ p.core p.line)) := by
  have H := hide h
  have OP := opIn_new w p 35
  obtain ⟨f0, f1, f2, f3, f4, f5⟩ := OP
  have hst := store_op p
  clear h
  go_enter Try.func18, Try.ntmps18
  go_wp2_with fail
  refine (kind_any p.kind k64 12 (by decide) (by decide) _).mono ?_
  rintro e V ⟨rfl, rfl⟩
  rw [hk]
  have HX := hide ((unhide H).alloc (.cells (opV p) 35))
  have HSA : Hid (Same G w (w.alloc (.cells (opV p) 35))) := fun k hk => Below.heap_alloc _ _ _ ((unhide H).lt k hk)
  obtain ⟨L, hL⟩ : ∃ L, L = w.heap.size := ⟨_, rfl⟩
  rw [← hL] at f0 f1 f2 f3 f4 f5 HX ⊢
  generalize w.alloc (.cells (opV p) 35) = X at *
  clear hst hL hk H
  go_wp2_with fail
  refine wp_region_noPanic ?_
  refine wp_region_held_drew (S := fun w' => w'.cell? ⟨L, 1, none⟩ = some (.int .i64 p.core) ∧ w'.cell? ⟨L, 2, none⟩ = some (.int .i64 p.line)) (by kernel_rfl) ⟨f1, f2⟩ (fun hHeld => ?_)
  refine take_at 0 39 (v := ?_) rfl rfl (by kernel_rfl) (by kernel_rfl) (by kernel_rfl) (Or.inl ⟨by rfl, ?_⟩) hHeld ?_
  rotate_left
  · intro w hSw; go_simp; with_reducible rfl
  simp only [Act.put, List.setIfInBounds_toArray, List.set_cons_zero, List.set_cons_succ]
  refine take_at 1 40 (v := ?_) rfl rfl (by kernel_rfl) (by kernel_rfl) (by kernel_rfl) (Or.inl ⟨by rfl, ?_⟩) hHeld ?_
  rotate_left
  · intro w hSw; go_simp; with_reducible rfl
  simp only [Act.put, List.setIfInBounds_toArray, List.set_cons_zero, List.set_cons_succ]
  refine take_at 2 41 (v := ?_) rfl rfl (by kernel_rfl) (by kernel_rfl) (by kernel_rfl) (Or.inl ⟨by rfl, ?_⟩) hHeld ?_
  rotate_left
  · intro w hSw; go_simp; with_reducible rfl
  simp only [Act.put, List.setIfInBounds_toArray, List.set_cons_zero, List.set_cons_succ]
  refine take_at 3 42 (v := ?_) rfl rfl (by kernel_rfl) (by kernel_rfl) (by kernel_rfl) (Or.inl ⟨by rfl, ?_⟩) hHeld ?_
  rotate_left
  · intro w hSw; go_simp; with_reducible rfl
  simp only [Act.put, List.setIfInBounds_toArray, List.set_cons_zero, List.set_cons_succ]
  refine take_at 4 43 (v := ?_) rfl rfl (by kernel_rfl) (by kernel_rfl) (by kernel_rfl) (Or.inl ⟨by rfl, ?_⟩) hHeld ?_
  rotate_left
  · intro w hSw; go_simp; with_reducible rfl
  simp only [Act.put, List.setIfInBounds_toArray, List.set_cons_zero, List.set_cons_succ]
  refine take_at 6 45 (v := ?_) rfl rfl (by kernel_rfl) (by kernel_rfl) (by kernel_rfl) (Or.inl ⟨by rfl, ?_⟩) hHeld ?_
  rotate_left
  · intro w hSw; go_simp; with_reducible rfl
  simp only [Act.put, List.setIfInBounds_toArray, List.set_cons_zero, List.set_cons_succ]
  refine take_at 7 46 (v := ?_) rfl rfl (by kernel_rfl) (by kernel_rfl) (by kernel_rfl) (Or.inl ⟨by rfl, ?_⟩) hHeld ?_
  rotate_left
  · intro w hSw; go_simp; with_reducible rfl
  simp only [Act.put, List.setIfInBounds_toArray, List.set_cons_zero, List.set_cons_succ]
  refine take_at 8 47 (v := ?_) rfl rfl (by kernel_rfl) (by kernel_rfl) (by kernel_rfl) (Or.inl ⟨by rfl, ?_⟩) hHeld ?_
  rotate_left
  · intro w hSw; go_simp; with_reducible rfl
  simp only [Act.put, List.setIfInBounds_toArray, List.set_cons_zero, List.set_cons_succ]
  refine take_at 9 48 (v := ?_) rfl rfl (by kernel_rfl) (by kernel_rfl) (by kernel_rfl) (Or.inl ⟨by rfl, ?_⟩) hHeld ?_
  rotate_left
  · intro w hSw; go_simp; with_reducible rfl
  simp only [Act.put, List.setIfInBounds_toArray, List.set_cons_zero, List.set_cons_succ]
  refine take_at 10 49 (v := ?_) rfl rfl (by kernel_rfl) (by kernel_rfl) (by kernel_rfl) (Or.inl ⟨by rfl, ?_⟩) hHeld ?_
  rotate_left
  · intro w hSw; go_simp; with_reducible rfl
  simp only [Act.put, List.setIfInBounds_toArray, List.set_cons_zero, List.set_cons_succ]
  have C1 := hide ((unhide HX).drew.flushL (ok_mono hok (by omega)) p.core p.line)
  have HSV : Hid (Same G w X.drew) := unhide HSA
  generalize X.drew = V at *
  refine wpAnyH_ready (rs := [5]) (by kernel_rfl) (by simp) ?_
  refine AllReadyH.cons rfl (fun K hK => ?_) AllReadyH.nil
  go_simp
  refine (unhide C1).mono ?_
  rintro e V1 ⟨rfl, hT, hS⟩
  have s1 := And.intro ((hS.cell (Or.inr rfl) 1).trans hHeld.1) ((hS.cell (Or.inr rfl) 2).trans hHeld.2)
  have HS1 : Hid (Same G w V1) := (unhide HSV).trans (fun k hk => hS k (Or.inl hk))
  have C2 := hide (hT.flushR (ok_mono hok (by omega)) p.core p.line)
  clear hT hS HSA HSV C1 HX f0 f1 f2 f3 f4 f5
  go_wp2_with fail
  refine hK.out _ _ s1 (fun hNew => ?_)
  clear hK K hHeld hNew
  have hHeld := s1
  clear s1
  try simp only [Act.put, List.setIfInBounds_toArray]
  refine wpAnyH_ready (rs := [11]) (by kernel_rfl) (by simp) ?_
  refine AllReadyH.cons rfl (fun K hK => ?_) AllReadyH.nil
  go_simp
  refine (unhide C2).mono ?_
  rintro e V2 ⟨rfl, hT, hS⟩
  have s1 := And.intro ((hS.cell (Or.inr rfl) 1).trans hHeld.1) ((hS.cell (Or.inr rfl) 2).trans hHeld.2)
  have HS2 : Hid (Same G w V2) := (unhide HS1).trans (fun k hk => hS k (Or.inl hk))
  have HT2 : Hid (Two W V2 G b y (A.flushZ p.core p.line) (A.flushZ p.core p.line)) := hT.less fun k hk => Or.inl hk
  clear hT hS HS1 C2
  go_wp2_with fail
  refine hK.out _ _ s1 (fun hNew => ?_)
  clear hK K hHeld hNew
  have hHeld := s1
  clear s1
  try simp only [Act.put, List.setIfInBounds_toArray]
  refine take_at 12 51 (v := ?_) rfl rfl (by kernel_rfl) (by kernel_rfl) (by kernel_rfl) (Or.inl ⟨by rfl, ?_⟩) hHeld ?_
  rotate_left
  · intro w hSw; go_simp; with_reducible rfl
  simp only [Act.put, List.setIfInBounds_toArray, List.set_cons_zero, List.set_cons_succ]
  refine take_at 13 6 (v := ?_) rfl rfl (by kernel_rfl) (by kernel_rfl) (by kernel_rfl) (Or.inl ⟨by rfl, ?_⟩) hHeld ?_
  rotate_left
  · intro w hSw; go_simp; with_reducible rfl
  simp only [Act.put, List.setIfInBounds_toArray, List.set_cons_zero, List.set_cons_succ]
  refine wpAnyH_done (by kernel_rfl) ?_ _
  refine NoPanic.normal ?_
  clear hHeld
  go_wp2_with fail
  go_ret
  exact ⟨rfl, unhide HT2, unhide HS2⟩

theorem does_evict (h : Two W w G b y A A) (hok : A.ok 999) (p : OpV) (hk : kindN p.kind 12 = 7) (k64 : In64 p.kind) :
    Calls Try.prog 18 #[.pointer (some ⟨b, 0, none⟩), .pointer (some ⟨y, 0, none⟩), .agg (opV p)] w (Did W w G b y (A.evictZ p.line p.word)) := by
  have H := hide h
  have OP := opIn_new w p 35
  obtain ⟨f0, f1, f2, f3, f4, f5⟩ := OP
  have hst := store_op p
  clear h
  go_enter Try.func18, Try.ntmps18
  go_wp2_with fail
  refine (kind_any p.kind k64 12 (by decide) (by decide) _).mono ?_
  rintro e V ⟨rfl, rfl⟩
  rw [hk]
  have HX := hide ((unhide H).alloc (.cells (opV p) 35))
  have HSA : Hid (Same G w (w.alloc (.cells (opV p) 35))) := fun k hk => Below.heap_alloc _ _ _ ((unhide H).lt k hk)
  obtain ⟨L, hL⟩ : ∃ L, L = w.heap.size := ⟨_, rfl⟩
  rw [← hL] at f0 f1 f2 f3 f4 f5 HX ⊢
  generalize w.alloc (.cells (opV p) 35) = X at *
  clear hst hL hk H
  go_wp2_with fail
  refine wp_region_noPanic ?_
  refine wp_region_held_drew (S := fun w' => w'.cell? ⟨L, 2, none⟩ = some (.int .i64 p.line) ∧ w'.cell? ⟨L, 3, none⟩ = some (.int .i64 p.word)) (by kernel_rfl) ⟨f2, f3⟩ (fun hHeld => ?_)
  refine take_at 0 65 (v := ?_) rfl rfl (by kernel_rfl) (by kernel_rfl) (by kernel_rfl) (Or.inl ⟨by rfl, ?_⟩) hHeld ?_
  rotate_left
  · intro w hSw; go_simp; with_reducible rfl
  simp only [Act.put, List.setIfInBounds_toArray, List.set_cons_zero, List.set_cons_succ]
  refine take_at 1 66 (v := ?_) rfl rfl (by kernel_rfl) (by kernel_rfl) (by kernel_rfl) (Or.inl ⟨by rfl, ?_⟩) hHeld ?_
  rotate_left
  · intro w hSw; go_simp; with_reducible rfl
  simp only [Act.put, List.setIfInBounds_toArray, List.set_cons_zero, List.set_cons_succ]
  refine take_at 2 67 (v := ?_) rfl rfl (by kernel_rfl) (by kernel_rfl) (by kernel_rfl) (Or.inl ⟨by rfl, ?_⟩) hHeld ?_
  rotate_left
  · intro w hSw; go_simp; with_reducible rfl
  simp only [Act.put, List.setIfInBounds_toArray, List.set_cons_zero, List.set_cons_succ]
  refine take_at 3 68 (v := ?_) rfl rfl (by kernel_rfl) (by kernel_rfl) (by kernel_rfl) (Or.inl ⟨by rfl, ?_⟩) hHeld ?_
  rotate_left
  · intro w hSw; go_simp; with_reducible rfl
  simp only [Act.put, List.setIfInBounds_toArray, List.set_cons_zero, List.set_cons_succ]
  refine take_at 4 69 (v := ?_) rfl rfl (by kernel_rfl) (by kernel_rfl) (by kernel_rfl) (Or.inl ⟨by rfl, ?_⟩) hHeld ?_
  rotate_left
  · intro w hSw; go_simp; with_reducible rfl
  simp only [Act.put, List.setIfInBounds_toArray, List.set_cons_zero, List.set_cons_succ]
  refine take_at 6 71 (v := ?_) rfl rfl (by kernel_rfl) (by kernel_rfl) (by kernel_rfl) (Or.inl ⟨by rfl, ?_⟩) hHeld ?_
  rotate_left
  · intro w hSw; go_simp; with_reducible rfl
  simp only [Act.put, List.setIfInBounds_toArray, List.set_cons_zero, List.set_cons_succ]
  refine take_at 7 72 (v := ?_) rfl rfl (by kernel_rfl) (by kernel_rfl) (by kernel_rfl) (Or.inl ⟨by rfl, ?_⟩) hHeld ?_
  rotate_left
  · intro w hSw; go_simp; with_reducible rfl
  simp only [Act.put, List.setIfInBounds_toArray, List.set_cons_zero, List.set_cons_succ]
  refine take_at 8 73 (v := ?_) rfl rfl (by kernel_rfl) (by kernel_rfl) (by kernel_rfl) (Or.inl ⟨by rfl, ?_⟩) hHeld ?_
  rotate_left
  · intro w hSw; go_simp; with_reducible rfl
  simp only [Act.put, List.setIfInBounds_toArray, List.set_cons_zero, List.set_cons_succ]
  refine take_at 9 74 (v := ?_) rfl rfl (by kernel_rfl) (by kernel_rfl) (by kernel_rfl) (Or.inl ⟨by rfl, ?_⟩) hHeld ?_
  rotate_left
  · intro w hSw; go_simp; with_reducible rfl
  simp only [Act.put, List.setIfInBounds_toArray, List.set_cons_zero, List.set_cons_succ]
  refine take_at 10 75 (v := ?_) rfl rfl (by kernel_rfl) (by kernel_rfl) (by kernel_rfl) (Or.inl ⟨by rfl, ?_⟩) hHeld ?_
  rotate_left
  · intro w hSw; go_simp; with_reducible rfl
  simp only [Act.put, List.setIfInBounds_toArray, List.set_cons_zero, List.set_cons_succ]
  have C1 := hide ((unhide HX).drew.evictL (ok_mono hok (by omega)) p.line p.word)
  have HSV : Hid (Same G w X.drew) := unhide HSA
  generalize X.drew = V at *
  refine wpAnyH_ready (rs := [5]) (by kernel_rfl) (by simp) ?_
  refine AllReadyH.cons rfl (fun K hK => ?_) AllReadyH.nil
  go_simp
  refine (unhide C1).mono ?_
  rintro e V1 ⟨rfl, hT, hS⟩
  have s1 := And.intro ((hS.cell (Or.inr rfl) 2).trans hHeld.1) ((hS.cell (Or.inr rfl) 3).trans hHeld.2)
  have HS1 : Hid (Same G w V1) := (unhide HSV).trans (fun k hk => hS k (Or.inl hk))
  have C2 := hide (hT.evictR (ok_mono hok (by omega)) p.line p.word)
  clear hT hS HSA HSV C1 HX f0 f1 f2 f3 f4 f5
  go_wp2_with fail
  refine hK.out _ _ s1 (fun hNew => ?_)
  clear hK K hHeld hNew
  have hHeld := s1
  clear s1
  try simp only [Act.put, List.setIfInBounds_toArray]
  refine wpAnyH_ready (rs := [11]) (by kernel_rfl) (by simp) ?_
  refine AllReadyH.cons rfl (fun K hK => ?_) AllReadyH.nil
  go_simp
  refine (unhide C2).mono ?_
  rintro e V2 ⟨rfl, hT, hS⟩
  have s1 := And.intro ((hS.cell (Or.inr rfl) 2).trans hHeld.1) ((hS.cell (Or.inr rfl) 3).trans hHeld.2)
  have HS2 : Hid (Same G w V2) := (unhide HS1).trans (fun k hk => hS k (Or.inl hk))
  have HT2 : Hid (Two W V2 G b y (A.evictZ p.line p.word) (A.evictZ p.line p.word)) := hT.less fun k hk => Or.inl hk
  clear hT hS HS1 C2
  go_wp2_with fail
  refine hK.out _ _ s1 (fun hNew => ?_)
  clear hK K hHeld hNew
  have hHeld := s1
  clear s1
  try simp only [Act.put, List.setIfInBounds_toArray]
  refine take_at 12 77 (v := ?_) rfl rfl (by kernel_rfl) (by kernel_rfl) (by kernel_rfl) (Or.inl ⟨by rfl, ?_⟩) hHeld ?_
  rotate_left
  · intro w hSw; go_simp; with_reducible rfl
  simp only [Act.put, List.setIfInBounds_toArray, List.set_cons_zero, List.set_cons_succ]
  refine take_at 13 6 (v := ?_) rfl rfl (by kernel_rfl) (by kernel_rfl) (by kernel_rfl) (Or.inl ⟨by rfl, ?_⟩) hHeld ?_
  rotate_left
  · intro w hSw; go_simp; with_reducible rfl
  simp only [Act.put, List.setIfInBounds_toArray, List.set_cons_zero, List.set_cons_succ]
  refine wpAnyH_done (by kernel_rfl) ?_ _
  refine NoPanic.normal ?_
  clear hHeld
  go_wp2_with fail
  go_ret
  exact ⟨rfl, unhide HT2, unhide HS2⟩

theorem does_store0 (h : Two W w G b y A A) (hok : A.ok 999) (p : OpV) (hk : kindN p.kind 12 = 0) (k64 : In64 p.kind) :
    Calls Try.prog 18 #[.pointer (some ⟨b, 0, none⟩), .pointer (some ⟨y, 0, none⟩), .agg (opV p)] w (Did W w G b y (A.storeZ p.line p.word p.v)) := by
  have H := hide h
  have OP := opIn_new w p 35
  obtain ⟨f0, f1, f2, f3, f4, f5⟩ := OP
  have hst := store_op p
  clear h
  go_enter Try.func18, Try.ntmps18
  go_wp2_with fail
  refine (kind_any p.kind k64 12 (by decide) (by decide) _).mono ?_
  rintro e V ⟨rfl, rfl⟩
  rw [hk]
  have HX := hide ((unhide H).alloc (.cells (opV p) 35))
  have HSA : Hid (Same G w (w.alloc (.cells (opV p) 35))) := fun k hk => Below.heap_alloc _ _ _ ((unhide H).lt k hk)
  obtain ⟨L, hL⟩ : ∃ L, L = w.heap.size := ⟨_, rfl⟩
  rw [← hL] at f0 f1 f2 f3 f4 f5 HX ⊢
  generalize w.alloc (.cells (opV p) 35) = X at *
  clear hst hL hk H
  go_wp2_with fail
  refine wp_region_noPanic ?_
  refine wp_region_held_drew (S := fun w' => w'.cell? ⟨L, 2, none⟩ = some (.int .i64 p.line) ∧ w'.cell? ⟨L, 3, none⟩ = some (.int .i64 p.word) ∧ w'.cell? ⟨L, 4, none⟩ = some (.int .u64 p.v)) (by kernel_rfl) ⟨f2, f3, f4⟩ (fun hHeld => ?_)
  refine take_at 0 20 (v := ?_) rfl rfl (by kernel_rfl) (by kernel_rfl) (by kernel_rfl) (Or.inl ⟨by rfl, ?_⟩) hHeld ?_
  rotate_left
  · intro w hSw; go_simp; with_reducible rfl
  simp only [Act.put, List.setIfInBounds_toArray, List.set_cons_zero, List.set_cons_succ]
  refine take_at 1 21 (v := ?_) rfl rfl (by kernel_rfl) (by kernel_rfl) (by kernel_rfl) (Or.inl ⟨by rfl, ?_⟩) hHeld ?_
  rotate_left
  · intro w hSw; go_simp; with_reducible rfl
  simp only [Act.put, List.setIfInBounds_toArray, List.set_cons_zero, List.set_cons_succ]
  refine take_at 2 22 (v := ?_) rfl rfl (by kernel_rfl) (by kernel_rfl) (by kernel_rfl) (Or.inl ⟨by rfl, ?_⟩) hHeld ?_
  rotate_left
  · intro w hSw; go_simp; with_reducible rfl
  simp only [Act.put, List.setIfInBounds_toArray, List.set_cons_zero, List.set_cons_succ]
  refine take_at 3 23 (v := ?_) rfl rfl (by kernel_rfl) (by kernel_rfl) (by kernel_rfl) (Or.inl ⟨by rfl, ?_⟩) hHeld ?_
  rotate_left
  · intro w hSw; go_simp; with_reducible rfl
  simp only [Act.put, List.setIfInBounds_toArray, List.set_cons_zero, List.set_cons_succ]
  refine take_at 4 24 (v := ?_) rfl rfl (by kernel_rfl) (by kernel_rfl) (by kernel_rfl) (Or.inl ⟨by rfl, ?_⟩) hHeld ?_
  rotate_left
  · intro w hSw; go_simp; with_reducible rfl
  simp only [Act.put, List.setIfInBounds_toArray, List.set_cons_zero, List.set_cons_succ]
  refine take_at 5 25 (v := ?_) rfl rfl (by kernel_rfl) (by kernel_rfl) (by kernel_rfl) (Or.inl ⟨by rfl, ?_⟩) hHeld ?_
  rotate_left
  · intro w hSw; go_simp; with_reducible rfl
  simp only [Act.put, List.setIfInBounds_toArray, List.set_cons_zero, List.set_cons_succ]
  refine take_at 6 26 (v := ?_) rfl rfl (by kernel_rfl) (by kernel_rfl) (by kernel_rfl) (Or.inl ⟨by rfl, ?_⟩) hHeld ?_
  rotate_left
  · intro w hSw; go_simp; with_reducible rfl
  simp only [Act.put, List.setIfInBounds_toArray, List.set_cons_zero, List.set_cons_succ]
  refine take_at 8 28 (v := ?_) rfl rfl (by kernel_rfl) (by kernel_rfl) (by kernel_rfl) (Or.inl ⟨by rfl, ?_⟩) hHeld ?_
  rotate_left
  · intro w hSw; go_simp; with_reducible rfl
  simp only [Act.put, List.setIfInBounds_toArray, List.set_cons_zero, List.set_cons_succ]
  refine take_at 9 29 (v := ?_) rfl rfl (by kernel_rfl) (by kernel_rfl) (by kernel_rfl) (Or.inl ⟨by rfl, ?_⟩) hHeld ?_
  rotate_left
  · intro w hSw; go_simp; with_reducible rfl
  simp only [Act.put, List.setIfInBounds_toArray, List.set_cons_zero, List.set_cons_succ]
  refine take_at 10 30 (v := ?_) rfl rfl (by kernel_rfl) (by kernel_rfl) (by kernel_rfl) (Or.inl ⟨by rfl, ?_⟩) hHeld ?_
  rotate_left
  · intro w hSw; go_simp; with_reducible rfl
  simp only [Act.put, List.setIfInBounds_toArray, List.set_cons_zero, List.set_cons_succ]
  refine take_at 11 31 (v := ?_) rfl rfl (by kernel_rfl) (by kernel_rfl) (by kernel_rfl) (Or.inl ⟨by rfl, ?_⟩) hHeld ?_
  rotate_left
  · intro w hSw; go_simp; with_reducible rfl
  simp only [Act.put, List.setIfInBounds_toArray, List.set_cons_zero, List.set_cons_succ]
  refine take_at 12 32 (v := ?_) rfl rfl (by kernel_rfl) (by kernel_rfl) (by kernel_rfl) (Or.inl ⟨by rfl, ?_⟩) hHeld ?_
  rotate_left
  · intro w hSw; go_simp; with_reducible rfl
  simp only [Act.put, List.setIfInBounds_toArray, List.set_cons_zero, List.set_cons_succ]
  refine take_at 13 33 (v := ?_) rfl rfl (by kernel_rfl) (by kernel_rfl) (by kernel_rfl) (Or.inl ⟨by rfl, ?_⟩) hHeld ?_
  rotate_left
  · intro w hSw; go_simp; with_reducible rfl
  simp only [Act.put, List.setIfInBounds_toArray, List.set_cons_zero, List.set_cons_succ]
  refine take_at 14 34 (v := ?_) rfl rfl (by kernel_rfl) (by kernel_rfl) (by kernel_rfl) (Or.inl ⟨by rfl, ?_⟩) hHeld ?_
  rotate_left
  · intro w hSw; go_simp; with_reducible rfl
  simp only [Act.put, List.setIfInBounds_toArray, List.set_cons_zero, List.set_cons_succ]
  have C1 := hide ((unhide HX).drew.storeL (ok_mono hok (by omega)) p.line p.word p.v)
  have HSV : Hid (Same G w X.drew) := unhide HSA
  generalize X.drew = V at *
  refine wpAnyH_ready (rs := [7]) (by kernel_rfl) (by simp) ?_
  refine AllReadyH.cons rfl (fun K hK => ?_) AllReadyH.nil
  go_simp
  refine (unhide C1).mono ?_
  rintro e V1 ⟨rfl, hT, hS⟩
  have s1 := And.intro ((hS.cell (Or.inr rfl) 2).trans hHeld.1) (And.intro ((hS.cell (Or.inr rfl) 3).trans hHeld.2.1) ((hS.cell (Or.inr rfl) 4).trans hHeld.2.2))
  have HS1 : Hid (Same G w V1) := (unhide HSV).trans (fun k hk => hS k (Or.inl hk))
  have C2 := hide (hT.storeR (ok_mono hok (by omega)) p.line p.word p.v)
  clear hT hS HSA HSV C1 HX f0 f1 f2 f3 f4 f5
  go_wp2_with fail
  refine hK.out _ _ s1 (fun hNew => ?_)
  clear hK K hHeld hNew
  have hHeld := s1
  clear s1
  try simp only [Act.put, List.setIfInBounds_toArray]
  refine wpAnyH_ready (rs := [15]) (by kernel_rfl) (by simp) ?_
  refine AllReadyH.cons rfl (fun K hK => ?_) AllReadyH.nil
  go_simp
  refine (unhide C2).mono ?_
  rintro e V2 ⟨rfl, hT, hS⟩
  have s1 := And.intro ((hS.cell (Or.inr rfl) 2).trans hHeld.1) (And.intro ((hS.cell (Or.inr rfl) 3).trans hHeld.2.1) ((hS.cell (Or.inr rfl) 4).trans hHeld.2.2))
  have HS2 : Hid (Same G w V2) := (unhide HS1).trans (fun k hk => hS k (Or.inl hk))
  have HT2 : Hid (Two W V2 G b y (A.storeZ p.line p.word p.v) (A.storeZ p.line p.word p.v)) := hT.less fun k hk => Or.inl hk
  clear hT hS HS1 C2
  go_wp2_with fail
  refine hK.out _ _ s1 (fun hNew => ?_)
  clear hK K hHeld hNew
  have hHeld := s1
  clear s1
  try simp only [Act.put, List.setIfInBounds_toArray]
  refine take_at 16 36 (v := ?_) rfl rfl (by kernel_rfl) (by kernel_rfl) (by kernel_rfl) (Or.inl ⟨by rfl, ?_⟩) hHeld ?_
  rotate_left
  · intro w hSw; go_simp; with_reducible rfl
  simp only [Act.put, List.setIfInBounds_toArray, List.set_cons_zero, List.set_cons_succ]
  refine take_at 17 6 (v := ?_) rfl rfl (by kernel_rfl) (by kernel_rfl) (by kernel_rfl) (Or.inl ⟨by rfl, ?_⟩) hHeld ?_
  rotate_left
  · intro w hSw; go_simp; with_reducible rfl
  simp only [Act.put, List.setIfInBounds_toArray, List.set_cons_zero, List.set_cons_succ]
  refine wpAnyH_done (by kernel_rfl) ?_ _
  refine NoPanic.normal ?_
  clear hHeld
  go_wp2_with fail
  go_ret
  exact ⟨rfl, unhide HT2, unhide HS2⟩

theorem does_store1 (h : Two W w G b y A A) (hok : A.ok 999) (p : OpV) (hk : kindN p.kind 12 = 1) (k64 : In64 p.kind) :
    Calls Try.prog 18 #[.pointer (some ⟨b, 0, none⟩), .pointer (some ⟨y, 0, none⟩), .agg (opV p)] w (Did W w G b y (A.storeZ p.line p.word p.v)) := by
  have H := hide h
  have OP := opIn_new w p 35
  obtain ⟨f0, f1, f2, f3, f4, f5⟩ := OP
  have hst := store_op p
  clear h
  go_enter Try.func18, Try.ntmps18
  go_wp2_with fail
  refine (kind_any p.kind k64 12 (by decide) (by decide) _).mono ?_
  rintro e V ⟨rfl, rfl⟩
  rw [hk]
  have HX := hide ((unhide H).alloc (.cells (opV p) 35))
  have HSA : Hid (Same G w (w.alloc (.cells (opV p) 35))) := fun k hk => Below.heap_alloc _ _ _ ((unhide H).lt k hk)
  obtain ⟨L, hL⟩ : ∃ L, L = w.heap.size := ⟨_, rfl⟩
  rw [← hL] at f0 f1 f2 f3 f4 f5 HX ⊢
  generalize w.alloc (.cells (opV p) 35) = X at *
  clear hst hL hk H
  go_wp2_with fail
  refine wp_region_noPanic ?_
  refine wp_region_held_drew (S := fun w' => w'.cell? ⟨L, 2, none⟩ = some (.int .i64 p.line) ∧ w'.cell? ⟨L, 3, none⟩ = some (.int .i64 p.word) ∧ w'.cell? ⟨L, 4, none⟩ = some (.int .u64 p.v)) (by kernel_rfl) ⟨f2, f3, f4⟩ (fun hHeld => ?_)
  refine take_at 0 20 (v := ?_) rfl rfl (by kernel_rfl) (by kernel_rfl) (by kernel_rfl) (Or.inl ⟨by rfl, ?_⟩) hHeld ?_
  rotate_left
  · intro w hSw; go_simp; with_reducible rfl
  simp only [Act.put, List.setIfInBounds_toArray, List.set_cons_zero, List.set_cons_succ]
  refine take_at 1 21 (v := ?_) rfl rfl (by kernel_rfl) (by kernel_rfl) (by kernel_rfl) (Or.inl ⟨by rfl, ?_⟩) hHeld ?_
  rotate_left
  · intro w hSw; go_simp; with_reducible rfl
  simp only [Act.put, List.setIfInBounds_toArray, List.set_cons_zero, List.set_cons_succ]
  refine take_at 2 22 (v := ?_) rfl rfl (by kernel_rfl) (by kernel_rfl) (by kernel_rfl) (Or.inl ⟨by rfl, ?_⟩) hHeld ?_
  rotate_left
  · intro w hSw; go_simp; with_reducible rfl
  simp only [Act.put, List.setIfInBounds_toArray, List.set_cons_zero, List.set_cons_succ]
  refine take_at 3 23 (v := ?_) rfl rfl (by kernel_rfl) (by kernel_rfl) (by kernel_rfl) (Or.inl ⟨by rfl, ?_⟩) hHeld ?_
  rotate_left
  · intro w hSw; go_simp; with_reducible rfl
  simp only [Act.put, List.setIfInBounds_toArray, List.set_cons_zero, List.set_cons_succ]
  refine take_at 4 24 (v := ?_) rfl rfl (by kernel_rfl) (by kernel_rfl) (by kernel_rfl) (Or.inl ⟨by rfl, ?_⟩) hHeld ?_
  rotate_left
  · intro w hSw; go_simp; with_reducible rfl
  simp only [Act.put, List.setIfInBounds_toArray, List.set_cons_zero, List.set_cons_succ]
  refine take_at 5 25 (v := ?_) rfl rfl (by kernel_rfl) (by kernel_rfl) (by kernel_rfl) (Or.inl ⟨by rfl, ?_⟩) hHeld ?_
  rotate_left
  · intro w hSw; go_simp; with_reducible rfl
  simp only [Act.put, List.setIfInBounds_toArray, List.set_cons_zero, List.set_cons_succ]
  refine take_at 6 26 (v := ?_) rfl rfl (by kernel_rfl) (by kernel_rfl) (by kernel_rfl) (Or.inl ⟨by rfl, ?_⟩) hHeld ?_
  rotate_left
  · intro w hSw; go_simp; with_reducible rfl
  simp only [Act.put, List.setIfInBounds_toArray, List.set_cons_zero, List.set_cons_succ]
  refine take_at 8 28 (v := ?_) rfl rfl (by kernel_rfl) (by kernel_rfl) (by kernel_rfl) (Or.inl ⟨by rfl, ?_⟩) hHeld ?_
  rotate_left
  · intro w hSw; go_simp; with_reducible rfl
  simp only [Act.put, List.setIfInBounds_toArray, List.set_cons_zero, List.set_cons_succ]
  refine take_at 9 29 (v := ?_) rfl rfl (by kernel_rfl) (by kernel_rfl) (by kernel_rfl) (Or.inl ⟨by rfl, ?_⟩) hHeld ?_
  rotate_left
  · intro w hSw; go_simp; with_reducible rfl
  simp only [Act.put, List.setIfInBounds_toArray, List.set_cons_zero, List.set_cons_succ]
  refine take_at 10 30 (v := ?_) rfl rfl (by kernel_rfl) (by kernel_rfl) (by kernel_rfl) (Or.inl ⟨by rfl, ?_⟩) hHeld ?_
  rotate_left
  · intro w hSw; go_simp; with_reducible rfl
  simp only [Act.put, List.setIfInBounds_toArray, List.set_cons_zero, List.set_cons_succ]
  refine take_at 11 31 (v := ?_) rfl rfl (by kernel_rfl) (by kernel_rfl) (by kernel_rfl) (Or.inl ⟨by rfl, ?_⟩) hHeld ?_
  rotate_left
  · intro w hSw; go_simp; with_reducible rfl
  simp only [Act.put, List.setIfInBounds_toArray, List.set_cons_zero, List.set_cons_succ]
  refine take_at 12 32 (v := ?_) rfl rfl (by kernel_rfl) (by kernel_rfl) (by kernel_rfl) (Or.inl ⟨by rfl, ?_⟩) hHeld ?_
  rotate_left
  · intro w hSw; go_simp; with_reducible rfl
  simp only [Act.put, List.setIfInBounds_toArray, List.set_cons_zero, List.set_cons_succ]
  refine take_at 13 33 (v := ?_) rfl rfl (by kernel_rfl) (by kernel_rfl) (by kernel_rfl) (Or.inl ⟨by rfl, ?_⟩) hHeld ?_
  rotate_left
  · intro w hSw; go_simp; with_reducible rfl
  simp only [Act.put, List.setIfInBounds_toArray, List.set_cons_zero, List.set_cons_succ]
  refine take_at 14 34 (v := ?_) rfl rfl (by kernel_rfl) (by kernel_rfl) (by kernel_rfl) (Or.inl ⟨by rfl, ?_⟩) hHeld ?_
  rotate_left
  · intro w hSw; go_simp; with_reducible rfl
  simp only [Act.put, List.setIfInBounds_toArray, List.set_cons_zero, List.set_cons_succ]
  have C1 := hide ((unhide HX).drew.storeL (ok_mono hok (by omega)) p.line p.word p.v)
  have HSV : Hid (Same G w X.drew) := unhide HSA
  generalize X.drew = V at *
  refine wpAnyH_ready (rs := [7]) (by kernel_rfl) (by simp) ?_
  refine AllReadyH.cons rfl (fun K hK => ?_) AllReadyH.nil
  go_simp
  refine (unhide C1).mono ?_
  rintro e V1 ⟨rfl, hT, hS⟩
  have s1 := And.intro ((hS.cell (Or.inr rfl) 2).trans hHeld.1) (And.intro ((hS.cell (Or.inr rfl) 3).trans hHeld.2.1) ((hS.cell (Or.inr rfl) 4).trans hHeld.2.2))
  have HS1 : Hid (Same G w V1) := (unhide HSV).trans (fun k hk => hS k (Or.inl hk))
  have C2 := hide (hT.storeR (ok_mono hok (by omega)) p.line p.word p.v)
  clear hT hS HSA HSV C1 HX f0 f1 f2 f3 f4 f5
  go_wp2_with fail
  refine hK.out _ _ s1 (fun hNew => ?_)
  clear hK K hHeld hNew
  have hHeld := s1
  clear s1
  try simp only [Act.put, List.setIfInBounds_toArray]
  refine wpAnyH_ready (rs := [15]) (by kernel_rfl) (by simp) ?_
  refine AllReadyH.cons rfl (fun K hK => ?_) AllReadyH.nil
  go_simp
  refine (unhide C2).mono ?_
  rintro e V2 ⟨rfl, hT, hS⟩
  have s1 := And.intro ((hS.cell (Or.inr rfl) 2).trans hHeld.1) (And.intro ((hS.cell (Or.inr rfl) 3).trans hHeld.2.1) ((hS.cell (Or.inr rfl) 4).trans hHeld.2.2))
  have HS2 : Hid (Same G w V2) := (unhide HS1).trans (fun k hk => hS k (Or.inl hk))
  have HT2 : Hid (Two W V2 G b y (A.storeZ p.line p.word p.v) (A.storeZ p.line p.word p.v)) := hT.less fun k hk => Or.inl hk
  clear hT hS HS1 C2
  go_wp2_with fail
  refine hK.out _ _ s1 (fun hNew => ?_)
  clear hK K hHeld hNew
  have hHeld := s1
  clear s1
  try simp only [Act.put, List.setIfInBounds_toArray]
  refine take_at 16 36 (v := ?_) rfl rfl (by kernel_rfl) (by kernel_rfl) (by kernel_rfl) (Or.inl ⟨by rfl, ?_⟩) hHeld ?_
  rotate_left
  · intro w hSw; go_simp; with_reducible rfl
  simp only [Act.put, List.setIfInBounds_toArray, List.set_cons_zero, List.set_cons_succ]
  refine take_at 17 6 (v := ?_) rfl rfl (by kernel_rfl) (by kernel_rfl) (by kernel_rfl) (Or.inl ⟨by rfl, ?_⟩) hHeld ?_
  rotate_left
  · intro w hSw; go_simp; with_reducible rfl
  simp only [Act.put, List.setIfInBounds_toArray, List.set_cons_zero, List.set_cons_succ]
  refine wpAnyH_done (by kernel_rfl) ?_ _
  refine NoPanic.normal ?_
  clear hHeld
  go_wp2_with fail
  go_ret
  exact ⟨rfl, unhide HT2, unhide HS2⟩

theorem does_store2 (h : Two W w G b y A A) (hok : A.ok 999) (p : OpV) (hk : kindN p.kind 12 = 2) (k64 : In64 p.kind) :
    Calls Try.prog 18 #[.pointer (some ⟨b, 0, none⟩), .pointer (some ⟨y, 0, none⟩), .agg (opV p)] w (Did W w G b y (A.storeZ p.line p.word p.v)) := by
  have H := hide h
  have OP := opIn_new w p 35
  obtain ⟨f0, f1, f2, f3, f4, f5⟩ := OP
  have hst := store_op p
  clear h
  go_enter Try.func18, Try.ntmps18
  go_wp2_with fail
  refine (kind_any p.kind k64 12 (by decide) (by decide) _).mono ?_
  rintro e V ⟨rfl, rfl⟩
  rw [hk]
  have HX := hide ((unhide H).alloc (.cells (opV p) 35))
  have HSA : Hid (Same G w (w.alloc (.cells (opV p) 35))) := fun k hk => Below.heap_alloc _ _ _ ((unhide H).lt k hk)
  obtain ⟨L, hL⟩ : ∃ L, L = w.heap.size := ⟨_, rfl⟩
  rw [← hL] at f0 f1 f2 f3 f4 f5 HX ⊢
  generalize w.alloc (.cells (opV p) 35) = X at *
  clear hst hL hk H
  go_wp2_with fail
  refine wp_region_noPanic ?_
  refine wp_region_held_drew (S := fun w' => w'.cell? ⟨L, 2, none⟩ = some (.int .i64 p.line) ∧ w'.cell? ⟨L, 3, none⟩ = some (.int .i64 p.word) ∧ w'.cell? ⟨L, 4, none⟩ = some (.int .u64 p.v)) (by kernel_rfl) ⟨f2, f3, f4⟩ (fun hHeld => ?_)
  refine take_at 0 20 (v := ?_) rfl rfl (by kernel_rfl) (by kernel_rfl) (by kernel_rfl) (Or.inl ⟨by rfl, ?_⟩) hHeld ?_
  rotate_left
  · intro w hSw; go_simp; with_reducible rfl
  simp only [Act.put, List.setIfInBounds_toArray, List.set_cons_zero, List.set_cons_succ]
  refine take_at 1 21 (v := ?_) rfl rfl (by kernel_rfl) (by kernel_rfl) (by kernel_rfl) (Or.inl ⟨by rfl, ?_⟩) hHeld ?_
  rotate_left
  · intro w hSw; go_simp; with_reducible rfl
  simp only [Act.put, List.setIfInBounds_toArray, List.set_cons_zero, List.set_cons_succ]
  refine take_at 2 22 (v := ?_) rfl rfl (by kernel_rfl) (by kernel_rfl) (by kernel_rfl) (Or.inl ⟨by rfl, ?_⟩) hHeld ?_
  rotate_left
  · intro w hSw; go_simp; with_reducible rfl
  simp only [Act.put, List.setIfInBounds_toArray, List.set_cons_zero, List.set_cons_succ]
  refine take_at 3 23 (v := ?_) rfl rfl (by kernel_rfl) (by kernel_rfl) (by kernel_rfl) (Or.inl ⟨by rfl, ?_⟩) hHeld ?_
  rotate_left
  · intro w hSw; go_simp; with_reducible rfl
  simp only [Act.put, List.setIfInBounds_toArray, List.set_cons_zero, List.set_cons_succ]
  refine take_at 4 24 (v := ?_) rfl rfl (by kernel_rfl) (by kernel_rfl) (by kernel_rfl) (Or.inl ⟨by rfl, ?_⟩) hHeld ?_
  rotate_left
  · intro w hSw; go_simp; with_reducible rfl
  simp only [Act.put, List.setIfInBounds_toArray, List.set_cons_zero, List.set_cons_succ]
  refine take_at 5 25 (v := ?_) rfl rfl (by kernel_rfl) (by kernel_rfl) (by kernel_rfl) (Or.inl ⟨by rfl, ?_⟩) hHeld ?_
  rotate_left
  · intro w hSw; go_simp; with_reducible rfl
  simp only [Act.put, List.setIfInBounds_toArray, List.set_cons_zero, List.set_cons_succ]
  refine take_at 6 26 (v := ?_) rfl rfl (by kernel_rfl) (by kernel_rfl) (by kernel_rfl) (Or.inl ⟨by rfl, ?_⟩) hHeld ?_
  rotate_left
  · intro w hSw; go_simp; with_reducible rfl
  simp only [Act.put, List.setIfInBounds_toArray, List.set_cons_zero, List.set_cons_succ]
  refine take_at 8 28 (v := ?_) rfl rfl (by kernel_rfl) (by kernel_rfl) (by kernel_rfl) (Or.inl ⟨by rfl, ?_⟩) hHeld ?_
  rotate_left
  · intro w hSw; go_simp; with_reducible rfl
  simp only [Act.put, List.setIfInBounds_toArray, List.set_cons_zero, List.set_cons_succ]
  refine take_at 9 29 (v := ?_) rfl rfl (by kernel_rfl) (by kernel_rfl) (by kernel_rfl) (Or.inl ⟨by rfl, ?_⟩) hHeld ?_
  rotate_left
  · intro w hSw; go_simp; with_reducible rfl
  simp only [Act.put, List.setIfInBounds_toArray, List.set_cons_zero, List.set_cons_succ]
  refine take_at 10 30 (v := ?_) rfl rfl (by kernel_rfl) (by kernel_rfl) (by kernel_rfl) (Or.inl ⟨by rfl, ?_⟩) hHeld ?_
  rotate_left
  · intro w hSw; go_simp; with_reducible rfl
  simp only [Act.put, List.setIfInBounds_toArray, List.set_cons_zero, List.set_cons_succ]
  refine take_at 11 31 (v := ?_) rfl rfl (by kernel_rfl) (by kernel_rfl) (by kernel_rfl) (Or.inl ⟨by rfl, ?_⟩) hHeld ?_
  rotate_left
  · intro w hSw; go_simp; with_reducible rfl
  simp only [Act.put, List.setIfInBounds_toArray, List.set_cons_zero, List.set_cons_succ]
  refine take_at 12 32 (v := ?_) rfl rfl (by kernel_rfl) (by kernel_rfl) (by kernel_rfl) (Or.inl ⟨by rfl, ?_⟩) hHeld ?_
  rotate_left
  · intro w hSw; go_simp; with_reducible rfl
  simp only [Act.put, List.setIfInBounds_toArray, List.set_cons_zero, List.set_cons_succ]
  refine take_at 13 33 (v := ?_) rfl rfl (by kernel_rfl) (by kernel_rfl) (by kernel_rfl) (Or.inl ⟨by rfl, ?_⟩) hHeld ?_
  rotate_left
  · intro w hSw; go_simp; with_reducible rfl
  simp only [Act.put, List.setIfInBounds_toArray, List.set_cons_zero, List.set_cons_succ]
  refine take_at 14 34 (v := ?_) rfl rfl (by kernel_rfl) (by kernel_rfl) (by kernel_rfl) (Or.inl ⟨by rfl, ?_⟩) hHeld ?_
  rotate_left
  · intro w hSw; go_simp; with_reducible rfl
  simp only [Act.put, List.setIfInBounds_toArray, List.set_cons_zero, List.set_cons_succ]
  have C1 := hide ((unhide HX).drew.storeL (ok_mono hok (by omega)) p.line p.word p.v)
  have HSV : Hid (Same G w X.drew) := unhide HSA
  generalize X.drew = V at *
  refine wpAnyH_ready (rs := [7]) (by kernel_rfl) (by simp) ?_
  refine AllReadyH.cons rfl (fun K hK => ?_) AllReadyH.nil
  go_simp
  refine (unhide C1).mono ?_
  rintro e V1 ⟨rfl, hT, hS⟩
  have s1 := And.intro ((hS.cell (Or.inr rfl) 2).trans hHeld.1) (And.intro ((hS.cell (Or.inr rfl) 3).trans hHeld.2.1) ((hS.cell (Or.inr rfl) 4).trans hHeld.2.2))
  have HS1 : Hid (Same G w V1) := (unhide HSV).trans (fun k hk => hS k (Or.inl hk))
  have C2 := hide (hT.storeR (ok_mono hok (by omega)) p.line p.word p.v)
  clear hT hS HSA HSV C1 HX f0 f1 f2 f3 f4 f5
  go_wp2_with fail
  refine hK.out _ _ s1 (fun hNew => ?_)
  clear hK K hHeld hNew
  have hHeld := s1
  clear s1
  try simp only [Act.put, List.setIfInBounds_toArray]
  refine wpAnyH_ready (rs := [15]) (by kernel_rfl) (by simp) ?_
  refine AllReadyH.cons rfl (fun K hK => ?_) AllReadyH.nil
  go_simp
  refine (unhide C2).mono ?_
  rintro e V2 ⟨rfl, hT, hS⟩
  have s1 := And.intro ((hS.cell (Or.inr rfl) 2).trans hHeld.1) (And.intro ((hS.cell (Or.inr rfl) 3).trans hHeld.2.1) ((hS.cell (Or.inr rfl) 4).trans hHeld.2.2))
  have HS2 : Hid (Same G w V2) := (unhide HS1).trans (fun k hk => hS k (Or.inl hk))
  have HT2 : Hid (Two W V2 G b y (A.storeZ p.line p.word p.v) (A.storeZ p.line p.word p.v)) := hT.less fun k hk => Or.inl hk
  clear hT hS HS1 C2
  go_wp2_with fail
  refine hK.out _ _ s1 (fun hNew => ?_)
  clear hK K hHeld hNew
  have hHeld := s1
  clear s1
  try simp only [Act.put, List.setIfInBounds_toArray]
  refine take_at 16 36 (v := ?_) rfl rfl (by kernel_rfl) (by kernel_rfl) (by kernel_rfl) (Or.inl ⟨by rfl, ?_⟩) hHeld ?_
  rotate_left
  · intro w hSw; go_simp; with_reducible rfl
  simp only [Act.put, List.setIfInBounds_toArray, List.set_cons_zero, List.set_cons_succ]
  refine take_at 17 6 (v := ?_) rfl rfl (by kernel_rfl) (by kernel_rfl) (by kernel_rfl) (Or.inl ⟨by rfl, ?_⟩) hHeld ?_
  rotate_left
  · intro w hSw; go_simp; with_reducible rfl
  simp only [Act.put, List.setIfInBounds_toArray, List.set_cons_zero, List.set_cons_succ]
  refine wpAnyH_done (by kernel_rfl) ?_ _
  refine NoPanic.normal ?_
  clear hHeld
  go_wp2_with fail
  go_ret
  exact ⟨rfl, unhide HT2, unhide HS2⟩

theorem does_store3 (h : Two W w G b y A A) (hok : A.ok 999) (p : OpV) (hk : kindN p.kind 12 = 3) (k64 : In64 p.kind) :
    Calls Try.prog 18 #[.pointer (some ⟨b, 0, none⟩), .pointer (some ⟨y, 0, none⟩), .agg (opV p)] w (Did W w G b y (A.storeZ p.line p.word p.v)) := by
  have H := hide h
  have OP := opIn_new w p 35
  obtain ⟨f0, f1, f2, f3, f4, f5⟩ := OP
  have hst := store_op p
  clear h
  go_enter Try.func18, Try.ntmps18
  go_wp2_with fail
  refine (kind_any p.kind k64 12 (by decide) (by decide) _).mono ?_
  rintro e V ⟨rfl, rfl⟩
  rw [hk]
  have HX := hide ((unhide H).alloc (.cells (opV p) 35))
  have HSA : Hid (Same G w (w.alloc (.cells (opV p) 35))) := fun k hk => Below.heap_alloc _ _ _ ((unhide H).lt k hk)
  obtain ⟨L, hL⟩ : ∃ L, L = w.heap.size := ⟨_, rfl⟩
  rw [← hL] at f0 f1 f2 f3 f4 f5 HX ⊢
  generalize w.alloc (.cells (opV p) 35) = X at *
  clear hst hL hk H
  go_wp2_with fail
  refine wp_region_noPanic ?_
  refine wp_region_held_drew (S := fun w' => w'.cell? ⟨L, 2, none⟩ = some (.int .i64 p.line) ∧ w'.cell? ⟨L, 3, none⟩ = some (.int .i64 p.word) ∧ w'.cell? ⟨L, 4, none⟩ = some (.int .u64 p.v)) (by kernel_rfl) ⟨f2, f3, f4⟩ (fun hHeld => ?_)
  refine take_at 0 20 (v := ?_) rfl rfl (by kernel_rfl) (by kernel_rfl) (by kernel_rfl) (Or.inl ⟨by rfl, ?_⟩) hHeld ?_
  rotate_left
  · intro w hSw; go_simp; with_reducible rfl
  simp only [Act.put, List.setIfInBounds_toArray, List.set_cons_zero, List.set_cons_succ]
  refine take_at 1 21 (v := ?_) rfl rfl (by kernel_rfl) (by kernel_rfl) (by kernel_rfl) (Or.inl ⟨by rfl, ?_⟩) hHeld ?_
  rotate_left
  · intro w hSw; go_simp; with_reducible rfl
  simp only [Act.put, List.setIfInBounds_toArray, List.set_cons_zero, List.set_cons_succ]
  refine take_at 2 22 (v := ?_) rfl rfl (by kernel_rfl) (by kernel_rfl) (by kernel_rfl) (Or.inl ⟨by rfl, ?_⟩) hHeld ?_
  rotate_left
  · intro w hSw; go_simp; with_reducible rfl
  simp only [Act.put, List.setIfInBounds_toArray, List.set_cons_zero, List.set_cons_succ]
  refine take_at 3 23 (v := ?_) rfl rfl (by kernel_rfl) (by kernel_rfl) (by kernel_rfl) (Or.inl ⟨by rfl, ?_⟩) hHeld ?_
  rotate_left
  · intro w hSw; go_simp; with_reducible rfl
  simp only [Act.put, List.setIfInBounds_toArray, List.set_cons_zero, List.set_cons_succ]
  refine take_at 4 24 (v := ?_) rfl rfl (by kernel_rfl) (by kernel_rfl) (by kernel_rfl) (Or.inl ⟨by rfl, ?_⟩) hHeld ?_
  rotate_left
  · intro w hSw; go_simp; with_reducible rfl
  simp only [Act.put, List.setIfInBounds_toArray, List.set_cons_zero, List.set_cons_succ]
  refine take_at 5 25 (v := ?_) rfl rfl (by kernel_rfl) (by kernel_rfl) (by kernel_rfl) (Or.inl ⟨by rfl, ?_⟩) hHeld ?_
  rotate_left
  · intro w hSw; go_simp; with_reducible rfl
  simp only [Act.put, List.setIfInBounds_toArray, List.set_cons_zero, List.set_cons_succ]
  refine take_at 6 26 (v := ?_) rfl rfl (by kernel_rfl) (by kernel_rfl) (by kernel_rfl) (Or.inl ⟨by rfl, ?_⟩) hHeld ?_
  rotate_left
  · intro w hSw; go_simp; with_reducible rfl
  simp only [Act.put, List.setIfInBounds_toArray, List.set_cons_zero, List.set_cons_succ]
  refine take_at 8 28 (v := ?_) rfl rfl (by kernel_rfl) (by kernel_rfl) (by kernel_rfl) (Or.inl ⟨by rfl, ?_⟩) hHeld ?_
  rotate_left
  · intro w hSw; go_simp; with_reducible rfl
  simp only [Act.put, List.setIfInBounds_toArray, List.set_cons_zero, List.set_cons_succ]
  refine take_at 9 29 (v := ?_) rfl rfl (by kernel_rfl) (by kernel_rfl) (by kernel_rfl) (Or.inl ⟨by rfl, ?_⟩) hHeld ?_
  rotate_left
  · intro w hSw; go_simp; with_reducible rfl
  simp only [Act.put, List.setIfInBounds_toArray, List.set_cons_zero, List.set_cons_succ]
  refine take_at 10 30 (v := ?_) rfl rfl (by kernel_rfl) (by kernel_rfl) (by kernel_rfl) (Or.inl ⟨by rfl, ?_⟩) hHeld ?_
  rotate_left
  · intro w hSw; go_simp; with_reducible rfl
  simp only [Act.put, List.setIfInBounds_toArray, List.set_cons_zero, List.set_cons_succ]
  refine take_at 11 31 (v := ?_) rfl rfl (by kernel_rfl) (by kernel_rfl) (by kernel_rfl) (Or.inl ⟨by rfl, ?_⟩) hHeld ?_
  rotate_left
  · intro w hSw; go_simp; with_reducible rfl
  simp only [Act.put, List.setIfInBounds_toArray, List.set_cons_zero, List.set_cons_succ]
  refine take_at 12 32 (v := ?_) rfl rfl (by kernel_rfl) (by kernel_rfl) (by kernel_rfl) (Or.inl ⟨by rfl, ?_⟩) hHeld ?_
  rotate_left
  · intro w hSw; go_simp; with_reducible rfl
  simp only [Act.put, List.setIfInBounds_toArray, List.set_cons_zero, List.set_cons_succ]
  refine take_at 13 33 (v := ?_) rfl rfl (by kernel_rfl) (by kernel_rfl) (by kernel_rfl) (Or.inl ⟨by rfl, ?_⟩) hHeld ?_
  rotate_left
  · intro w hSw; go_simp; with_reducible rfl
  simp only [Act.put, List.setIfInBounds_toArray, List.set_cons_zero, List.set_cons_succ]
  refine take_at 14 34 (v := ?_) rfl rfl (by kernel_rfl) (by kernel_rfl) (by kernel_rfl) (Or.inl ⟨by rfl, ?_⟩) hHeld ?_
  rotate_left
  · intro w hSw; go_simp; with_reducible rfl
  simp only [Act.put, List.setIfInBounds_toArray, List.set_cons_zero, List.set_cons_succ]
  have C1 := hide ((unhide HX).drew.storeL (ok_mono hok (by omega)) p.line p.word p.v)
  have HSV : Hid (Same G w X.drew) := unhide HSA
  generalize X.drew = V at *
  refine wpAnyH_ready (rs := [7]) (by kernel_rfl) (by simp) ?_
  refine AllReadyH.cons rfl (fun K hK => ?_) AllReadyH.nil
  go_simp
  refine (unhide C1).mono ?_
  rintro e V1 ⟨rfl, hT, hS⟩
  have s1 := And.intro ((hS.cell (Or.inr rfl) 2).trans hHeld.1) (And.intro ((hS.cell (Or.inr rfl) 3).trans hHeld.2.1) ((hS.cell (Or.inr rfl) 4).trans hHeld.2.2))
  have HS1 : Hid (Same G w V1) := (unhide HSV).trans (fun k hk => hS k (Or.inl hk))
  have C2 := hide (hT.storeR (ok_mono hok (by omega)) p.line p.word p.v)
  clear hT hS HSA HSV C1 HX f0 f1 f2 f3 f4 f5
  go_wp2_with fail
  refine hK.out _ _ s1 (fun hNew => ?_)
  clear hK K hHeld hNew
  have hHeld := s1
  clear s1
  try simp only [Act.put, List.setIfInBounds_toArray]
  refine wpAnyH_ready (rs := [15]) (by kernel_rfl) (by simp) ?_
  refine AllReadyH.cons rfl (fun K hK => ?_) AllReadyH.nil
  go_simp
  refine (unhide C2).mono ?_
  rintro e V2 ⟨rfl, hT, hS⟩
  have s1 := And.intro ((hS.cell (Or.inr rfl) 2).trans hHeld.1) (And.intro ((hS.cell (Or.inr rfl) 3).trans hHeld.2.1) ((hS.cell (Or.inr rfl) 4).trans hHeld.2.2))
  have HS2 : Hid (Same G w V2) := (unhide HS1).trans (fun k hk => hS k (Or.inl hk))
  have HT2 : Hid (Two W V2 G b y (A.storeZ p.line p.word p.v) (A.storeZ p.line p.word p.v)) := hT.less fun k hk => Or.inl hk
  clear hT hS HS1 C2
  go_wp2_with fail
  refine hK.out _ _ s1 (fun hNew => ?_)
  clear hK K hHeld hNew
  have hHeld := s1
  clear s1
  try simp only [Act.put, List.setIfInBounds_toArray]
  refine take_at 16 36 (v := ?_) rfl rfl (by kernel_rfl) (by kernel_rfl) (by kernel_rfl) (Or.inl ⟨by rfl, ?_⟩) hHeld ?_
  rotate_left
  · intro w hSw; go_simp; with_reducible rfl
  simp only [Act.put, List.setIfInBounds_toArray, List.set_cons_zero, List.set_cons_succ]
  refine take_at 17 6 (v := ?_) rfl rfl (by kernel_rfl) (by kernel_rfl) (by kernel_rfl) (Or.inl ⟨by rfl, ?_⟩) hHeld ?_
  rotate_left
  · intro w hSw; go_simp; with_reducible rfl
  simp only [Act.put, List.setIfInBounds_toArray, List.set_cons_zero, List.set_cons_succ]
  refine wpAnyH_done (by kernel_rfl) ?_ _
  refine NoPanic.normal ?_
  clear hHeld
  go_wp2_with fail
  go_ret
  exact ⟨rfl, unhide HT2, unhide HS2⟩

theorem does_store4 (h : Two W w G b y A A) (hok : A.ok 999) (p : OpV) (hk : kindN p.kind 12 = 4) (k64 : In64 p.kind) :
    Calls Try.prog 18 #[.pointer (some ⟨b, 0, none⟩), .pointer (some ⟨y, 0, none⟩), .agg (opV p)] w (Did W w G b y (A.storeZ p.line p.word p.v)) := by
  have H := hide h
  have OP := opIn_new w p 35
  obtain ⟨f0, f1, f2, f3, f4, f5⟩ := OP
  have hst := store_op p
  clear h
  go_enter Try.func18, Try.ntmps18
  go_wp2_with fail
  refine (kind_any p.kind k64 12 (by decide) (by decide) _).mono ?_
  rintro e V ⟨rfl, rfl⟩
  rw [hk]
  have HX := hide ((unhide H).alloc (.cells (opV p) 35))
  have HSA : Hid (Same G w (w.alloc (.cells (opV p) 35))) := fun k hk => Below.heap_alloc _ _ _ ((unhide H).lt k hk)
  obtain ⟨L, hL⟩ : ∃ L, L = w.heap.size := ⟨_, rfl⟩
  rw [← hL] at f0 f1 f2 f3 f4 f5 HX ⊢
  generalize w.alloc (.cells (opV p) 35) = X at *
  clear hst hL hk H
  go_wp2_with fail
  refine wp_region_noPanic ?_
  refine wp_region_held_drew (S := fun w' => w'.cell? ⟨L, 2, none⟩ = some (.int .i64 p.line) ∧ w'.cell? ⟨L, 3, none⟩ = some (.int .i64 p.word) ∧ w'.cell? ⟨L, 4, none⟩ = some (.int .u64 p.v)) (by kernel_rfl) ⟨f2, f3, f4⟩ (fun hHeld => ?_)
  refine take_at 0 20 (v := ?_) rfl rfl (by kernel_rfl) (by kernel_rfl) (by kernel_rfl) (Or.inl ⟨by rfl, ?_⟩) hHeld ?_
  rotate_left
  · intro w hSw; go_simp; with_reducible rfl
  simp only [Act.put, List.setIfInBounds_toArray, List.set_cons_zero, List.set_cons_succ]
  refine take_at 1 21 (v := ?_) rfl rfl (by kernel_rfl) (by kernel_rfl) (by kernel_rfl) (Or.inl ⟨by rfl, ?_⟩) hHeld ?_
  rotate_left
  · intro w hSw; go_simp; with_reducible rfl
  simp only [Act.put, List.setIfInBounds_toArray, List.set_cons_zero, List.set_cons_succ]
  refine take_at 2 22 (v := ?_) rfl rfl (by kernel_rfl) (by kernel_rfl) (by kernel_rfl) (Or.inl ⟨by rfl, ?_⟩) hHeld ?_
  rotate_left
  · intro w hSw; go_simp; with_reducible rfl
  simp only [Act.put, List.setIfInBounds_toArray, List.set_cons_zero, List.set_cons_succ]
  refine take_at 3 23 (v := ?_) rfl rfl (by kernel_rfl) (by kernel_rfl) (by kernel_rfl) (Or.inl ⟨by rfl, ?_⟩) hHeld ?_
  rotate_left
  · intro w hSw; go_simp; with_reducible rfl
  simp only [Act.put, List.setIfInBounds_toArray, List.set_cons_zero, List.set_cons_succ]
  refine take_at 4 24 (v := ?_) rfl rfl (by kernel_rfl) (by kernel_rfl) (by kernel_rfl) (Or.inl ⟨by rfl, ?_⟩) hHeld ?_
  rotate_left
  · intro w hSw; go_simp; with_reducible rfl
  simp only [Act.put, List.setIfInBounds_toArray, List.set_cons_zero, List.set_cons_succ]
  refine take_at 5 25 (v := ?_) rfl rfl (by kernel_rfl) (by kernel_rfl) (by kernel_rfl) (Or.inl ⟨by rfl, ?_⟩) hHeld ?_
  rotate_left
  · intro w hSw; go_simp; with_reducible rfl
  simp only [Act.put, List.setIfInBounds_toArray, List.set_cons_zero, List.set_cons_succ]
  refine take_at 6 26 (v := ?_) rfl rfl (by kernel_rfl) (by kernel_rfl) (by kernel_rfl) (Or.inl ⟨by rfl, ?_⟩) hHeld ?_
  rotate_left
  · intro w hSw; go_simp; with_reducible rfl
  simp only [Act.put, List.setIfInBounds_toArray, List.set_cons_zero, List.set_cons_succ]
  refine take_at 8 28 (v := ?_) rfl rfl (by kernel_rfl) (by kernel_rfl) (by kernel_rfl) (Or.inl ⟨by rfl, ?_⟩) hHeld ?_
  rotate_left
  · intro w hSw; go_simp; with_reducible rfl
  simp only [Act.put, List.setIfInBounds_toArray, List.set_cons_zero, List.set_cons_succ]
  refine take_at 9 29 (v := ?_) rfl rfl (by kernel_rfl) (by kernel_rfl) (by kernel_rfl) (Or.inl ⟨by rfl, ?_⟩) hHeld ?_
  rotate_left
  · intro w hSw; go_simp; with_reducible rfl
  simp only [Act.put, List.setIfInBounds_toArray, List.set_cons_zero, List.set_cons_succ]
  refine take_at 10 30 (v := ?_) rfl rfl (by kernel_rfl) (by kernel_rfl) (by kernel_rfl) (Or.inl ⟨by rfl, ?_⟩) hHeld ?_
  rotate_left
  · intro w hSw; go_simp; with_reducible rfl
  simp only [Act.put, List.setIfInBounds_toArray, List.set_cons_zero, List.set_cons_succ]
  refine take_at 11 31 (v := ?_) rfl rfl (by kernel_rfl) (by kernel_rfl) (by kernel_rfl) (Or.inl ⟨by rfl, ?_⟩) hHeld ?_
  rotate_left
  · intro w hSw; go_simp; with_reducible rfl
  simp only [Act.put, List.setIfInBounds_toArray, List.set_cons_zero, List.set_cons_succ]
  refine take_at 12 32 (v := ?_) rfl rfl (by kernel_rfl) (by kernel_rfl) (by kernel_rfl) (Or.inl ⟨by rfl, ?_⟩) hHeld ?_
  rotate_left
  · intro w hSw; go_simp; with_reducible rfl
  simp only [Act.put, List.setIfInBounds_toArray, List.set_cons_zero, List.set_cons_succ]
  refine take_at 13 33 (v := ?_) rfl rfl (by kernel_rfl) (by kernel_rfl) (by kernel_rfl) (Or.inl ⟨by rfl, ?_⟩) hHeld ?_
  rotate_left
  · intro w hSw; go_simp; with_reducible rfl
  simp only [Act.put, List.setIfInBounds_toArray, List.set_cons_zero, List.set_cons_succ]
  refine take_at 14 34 (v := ?_) rfl rfl (by kernel_rfl) (by kernel_rfl) (by kernel_rfl) (Or.inl ⟨by rfl, ?_⟩) hHeld ?_
  rotate_left
  · intro w hSw; go_simp; with_reducible rfl
  simp only [Act.put, List.setIfInBounds_toArray, List.set_cons_zero, List.set_cons_succ]
  have C1 := hide ((unhide HX).drew.storeL (ok_mono hok (by omega)) p.line p.word p.v)
  have HSV : Hid (Same G w X.drew) := unhide HSA
  generalize X.drew = V at *
  refine wpAnyH_ready (rs := [7]) (by kernel_rfl) (by simp) ?_
  refine AllReadyH.cons rfl (fun K hK => ?_) AllReadyH.nil
  go_simp
  refine (unhide C1).mono ?_
  rintro e V1 ⟨rfl, hT, hS⟩
  have s1 := And.intro ((hS.cell (Or.inr rfl) 2).trans hHeld.1) (And.intro ((hS.cell (Or.inr rfl) 3).trans hHeld.2.1) ((hS.cell (Or.inr rfl) 4).trans hHeld.2.2))
  have HS1 : Hid (Same G w V1) := (unhide HSV).trans (fun k hk => hS k (Or.inl hk))
  have C2 := hide (hT.storeR (ok_mono hok (by omega)) p.line p.word p.v)
  clear hT hS HSA HSV C1 HX f0 f1 f2 f3 f4 f5
  go_wp2_with fail
  refine hK.out _ _ s1 (fun hNew => ?_)
  clear hK K hHeld hNew
  have hHeld := s1
  clear s1
  try simp only [Act.put, List.setIfInBounds_toArray]
  refine wpAnyH_ready (rs := [15]) (by kernel_rfl) (by simp) ?_
  refine AllReadyH.cons rfl (fun K hK => ?_) AllReadyH.nil
  go_simp
  refine (unhide C2).mono ?_
  rintro e V2 ⟨rfl, hT, hS⟩
  have s1 := And.intro ((hS.cell (Or.inr rfl) 2).trans hHeld.1) (And.intro ((hS.cell (Or.inr rfl) 3).trans hHeld.2.1) ((hS.cell (Or.inr rfl) 4).trans hHeld.2.2))
  have HS2 : Hid (Same G w V2) := (unhide HS1).trans (fun k hk => hS k (Or.inl hk))
  have HT2 : Hid (Two W V2 G b y (A.storeZ p.line p.word p.v) (A.storeZ p.line p.word p.v)) := hT.less fun k hk => Or.inl hk
  clear hT hS HS1 C2
  go_wp2_with fail
  refine hK.out _ _ s1 (fun hNew => ?_)
  clear hK K hHeld hNew
  have hHeld := s1
  clear s1
  try simp only [Act.put, List.setIfInBounds_toArray]
  refine take_at 16 36 (v := ?_) rfl rfl (by kernel_rfl) (by kernel_rfl) (by kernel_rfl) (Or.inl ⟨by rfl, ?_⟩) hHeld ?_
  rotate_left
  · intro w hSw; go_simp; with_reducible rfl
  simp only [Act.put, List.setIfInBounds_toArray, List.set_cons_zero, List.set_cons_succ]
  refine take_at 17 6 (v := ?_) rfl rfl (by kernel_rfl) (by kernel_rfl) (by kernel_rfl) (Or.inl ⟨by rfl, ?_⟩) hHeld ?_
  rotate_left
  · intro w hSw; go_simp; with_reducible rfl
  simp only [Act.put, List.setIfInBounds_toArray, List.set_cons_zero, List.set_cons_succ]
  refine wpAnyH_done (by kernel_rfl) ?_ _
  refine NoPanic.normal ?_
  clear hHeld
  go_wp2_with fail
  go_ret
  exact ⟨rfl, unhide HT2, unhide HS2⟩

theorem does_load10 {A2 : Mm} (h : Two W w G b y A2 A2) (hok : A2.ok 999) (p : OpV) (hk : kindN p.kind 12 = 10) (k64 : In64 p.kind) :
    Calls Try.prog 18 #[.pointer (some ⟨b, 0, none⟩), .pointer (some ⟨y, 0, none⟩), .agg (opV p)] w (Did W w G b y A2) := by
  have H := hide h
  have OP := opIn_new w p 35
  obtain ⟨f0, f1, f2, f3, f4, f5⟩ := OP
  have hst := store_op p
  have hn := hok.2.1
  have hok2 := hok
  clear h
  go_enter Try.func18, Try.ntmps18
  go_wp2_with fail
  refine (kind_any p.kind k64 12 (by decide) (by decide) _).mono ?_
  rintro e V ⟨rfl, rfl⟩
  rw [hk]
  have HX := hide ((unhide H).alloc (.cells (opV p) 35))
  have HSA : Hid (Same G w (w.alloc (.cells (opV p) 35))) := fun k hk => Below.heap_alloc _ _ _ ((unhide H).lt k hk)
  obtain ⟨L, hL⟩ : ∃ L, L = w.heap.size := ⟨_, rfl⟩
  rw [← hL] at f0 f1 f2 f3 f4 f5 HX ⊢
  generalize w.alloc (.cells (opV p) 35) = X at *
  clear hst hL hk H
  go_wp2_with fail
  obtain ⟨fz, hfz⟩ : ∃ fz, fz = A2.hasZ p.line := ⟨_, rfl⟩
  have CL := hide ((unhide HX).loadL hn p.line)
  rw [← hfz] at CL
  have HFZ := hide hfz
  have hsl := store_line fz
  have hsz := lnV_size fz
  clear hfz
  refine (unhide CL).mono ?_
  rintro e V1 ⟨rfl, hT, hS⟩
  have g2 := (hS.cell (Or.inr rfl) 2).trans f2
  have g2' : (V1.alloc (.cells (lnV fz) 50)).cell? ⟨L, 2, none⟩ = some (.int .i64 p.line) := ((Keeps.refl (fun _ => False) V1).alloc _).cellOf g2 id
  have HT1 := hide (hT.alloc (.cells (lnV fz) 50))
  have HB1 := hide (heap_new V1 (.cells (lnV fz) 50))
  have HS1 : Hid (Same G w (V1.alloc (.cells (lnV fz) 50))) := (unhide HSA).trans fun k hk => (Below.heap_alloc _ _ _ (hT.lt k (Or.inl hk))).trans (hS k (Or.inl hk))
  clear f0 f1 f2 f3 f4 f5 HX HSA hS hT g2 CL
  go_wp2_with fail
  have CR := hide ((unhide HT1).loadR (ok_mono hok2 (by omega)) p.line)
  rw [← unhide HFZ] at CR
  refine (unhide CR).mono ?_
  rintro e V2 ⟨rfl, hT, hS⟩
  obtain ⟨M1, hM1⟩ : ∃ M1, M1 = V1.heap.size := ⟨_, rfl⟩
  rw [← hM1] at hT hS HB1 ⊢
  have HB1' : Hid ((V2.alloc (.cells (lnV fz) 50)).heap[M1]? = some (.cells (lnV fz) 50 (0, 0))) := by
    have h1 := (hS M1 (Or.inr rfl)).trans (unhide HB1)
    exact (Below.heap_alloc _ _ _ (lt_of_block h1)).trans h1
  have HB2 := hide (heap_new V2 (.cells (lnV fz) 50))
  have HT2 := hide ((hT.alloc (.cells (lnV fz) 50)).less (G' := G) fun k hk => Or.inl (Or.inl (Or.inl hk)))
  have HS2 : Hid (Same G w (V2.alloc (.cells (lnV fz) 50))) := (unhide HS1).trans fun k hk => (Below.heap_alloc _ _ _ (hT.lt k (Or.inl (Or.inl hk)))).trans (hS k (Or.inl (Or.inl hk)))
  clear HT1 HB1 HS1 CR hT hS hM1 g2'
  obtain ⟨M2, hM2⟩ : ∃ M2, M2 = V2.heap.size := ⟨_, rfl⟩
  rw [← hM2] at HB2
  have s8 : (Try.prog.info? 50).map (·.size) = some (lnV fz).size := by rw [lnV_size]; exact lsize
  go_upto_region 22 with fail
  rw [← hM2]
  generalize V2.alloc (.cells (lnV fz) 50) = Z at *
  clear hM2 hsl
  go_wp2_with (first | (refine wpList_load_row_g (by rfl) 50 (.tmp 7) rfl M1 rfl _ _ _ _ (unhide HB1') Try.underlying50 rfl s8 ?_) | (refine wpList_load_row_g (by rfl) 50 (.tmp 9) rfl M2 rfl _ _ _ _ (unhide HB2) Try.underlying50 rfl s8 ?_) | (refine wpList_eql (by rfl) (.tmp 112) (.tmp 113) rfl fz fz rfl rfl ?_; rw [eqL_refl]))
  go_ret
  exact ⟨rfl, by first | exact unhide HT2 | (rw [← unhide HA2]; exact unhide HT2), unhide HS2⟩

theorem does_load11 {A2 : Mm} (h : Two W w G b y A2 A2) (hok : A2.ok 999) (p : OpV) (hk : kindN p.kind 12 = 11) (k64 : In64 p.kind) :
    Calls Try.prog 18 #[.pointer (some ⟨b, 0, none⟩), .pointer (some ⟨y, 0, none⟩), .agg (opV p)] w (Did W w G b y A2) := by
  have hn := hok.2.1
  have hok2 := hok
  have H := hide h
  have OP := opIn_new w p 35
  obtain ⟨f0, f1, f2, f3, f4, f5⟩ := OP
  have hst := store_op p
  clear h
  go_enter Try.func18, Try.ntmps18
  go_wp2_with fail
  refine (kind_any p.kind k64 12 (by decide) (by decide) _).mono ?_
  rintro e V ⟨rfl, rfl⟩
  rw [hk]
  have HX := hide ((unhide H).alloc (.cells (opV p) 35))
  have HSA : Hid (Same G w (w.alloc (.cells (opV p) 35))) := fun k hk => Below.heap_alloc _ _ _ ((unhide H).lt k hk)
  obtain ⟨L, hL⟩ : ∃ L, L = w.heap.size := ⟨_, rfl⟩
  rw [← hL] at f0 f1 f2 f3 f4 f5 HX ⊢
  generalize w.alloc (.cells (opV p) 35) = X at *
  clear hst hL hk H
  go_wp2_with fail
  obtain ⟨fz, hfz⟩ : ∃ fz, fz = A2.hasZ p.line := ⟨_, rfl⟩
  have CL := hide ((unhide HX).loadL hn p.line)
  rw [← hfz] at CL
  have HFZ := hide hfz
  have hsl := store_line fz
  have hsz := lnV_size fz
  clear hfz
  refine (unhide CL).mono ?_
  rintro e V1 ⟨rfl, hT, hS⟩
  have g2 := (hS.cell (Or.inr rfl) 2).trans f2
  have g2' : (V1.alloc (.cells (lnV fz) 50)).cell? ⟨L, 2, none⟩ = some (.int .i64 p.line) := ((Keeps.refl (fun _ => False) V1).alloc _).cellOf g2 id
  have HT1 := hide (hT.alloc (.cells (lnV fz) 50))
  have HB1 := hide (heap_new V1 (.cells (lnV fz) 50))
  have HS1 : Hid (Same G w (V1.alloc (.cells (lnV fz) 50))) := (unhide HSA).trans fun k hk => (Below.heap_alloc _ _ _ (hT.lt k (Or.inl hk))).trans (hS k (Or.inl hk))
  clear f0 f1 f2 f3 f4 f5 HX HSA hS hT g2 CL
  go_wp2_with fail
  have CR := hide ((unhide HT1).loadR (ok_mono hok2 (by omega)) p.line)
  rw [← unhide HFZ] at CR
  refine (unhide CR).mono ?_
  rintro e V2 ⟨rfl, hT, hS⟩
  obtain ⟨M1, hM1⟩ : ∃ M1, M1 = V1.heap.size := ⟨_, rfl⟩
  rw [← hM1] at hT hS HB1 ⊢
  have HB1' : Hid ((V2.alloc (.cells (lnV fz) 50)).heap[M1]? = some (.cells (lnV fz) 50 (0, 0))) := by
    have h1 := (hS M1 (Or.inr rfl)).trans (unhide HB1)
    exact (Below.heap_alloc _ _ _ (lt_of_block h1)).trans h1
  have HB2 := hide (heap_new V2 (.cells (lnV fz) 50))
  have HT2 := hide ((hT.alloc (.cells (lnV fz) 50)).less (G' := G) fun k hk => Or.inl (Or.inl (Or.inl hk)))
  have HS2 : Hid (Same G w (V2.alloc (.cells (lnV fz) 50))) := (unhide HS1).trans fun k hk => (Below.heap_alloc _ _ _ (hT.lt k (Or.inl (Or.inl hk)))).trans (hS k (Or.inl (Or.inl hk)))
  clear HT1 HB1 HS1 CR hT hS hM1 g2'
  obtain ⟨M2, hM2⟩ : ∃ M2, M2 = V2.heap.size := ⟨_, rfl⟩
  rw [← hM2] at HB2
  have s8 : (Try.prog.info? 50).map (·.size) = some (lnV fz).size := by rw [lnV_size]; exact lsize
  go_upto_region 22 with fail
  rw [← hM2]
  generalize V2.alloc (.cells (lnV fz) 50) = Z at *
  clear hM2 hsl
  go_wp2_with (first | (refine wpList_load_row_g (by rfl) 50 (.tmp 7) rfl M1 rfl _ _ _ _ (unhide HB1') Try.underlying50 rfl s8 ?_) | (refine wpList_load_row_g (by rfl) 50 (.tmp 9) rfl M2 rfl _ _ _ _ (unhide HB2) Try.underlying50 rfl s8 ?_) | (refine wpList_eql (by rfl) (.tmp 112) (.tmp 113) rfl fz fz rfl rfl ?_; rw [eqL_refl]))
  go_ret
  exact ⟨rfl, by first | exact unhide HT2 | (rw [← unhide HA2]; exact unhide HT2), unhide HS2⟩

theorem does_fuse (h : Two W w G b y A A) (hok : A.ok 999) (p : OpV) (hk : kindN p.kind 12 = 8) (k64 : In64 p.kind) (hw : In64 p.word) :
    Calls Try.prog 18 #[.pointer (some ⟨b, 0, none⟩), .pointer (some ⟨y, 0, none⟩), .agg (opV p)] w (Did W w G b y (A.fused p.word)) := by
  have hok2 := ok_fused hok p.word hw
  have H := hide h
  have OP := opIn_new w p 35
  obtain ⟨f0, f1, f2, f3, f4, f5⟩ := OP
  have hst := store_op p
  clear h
  go_enter Try.func18, Try.ntmps18
  go_wp2_with fail
  refine (kind_any p.kind k64 12 (by decide) (by decide) _).mono ?_
  rintro e V ⟨rfl, rfl⟩
  rw [hk]
  have HX := hide ((unhide H).alloc (.cells (opV p) 35))
  have HSA : Hid (Same G w (w.alloc (.cells (opV p) 35))) := fun k hk => Below.heap_alloc _ _ _ ((unhide H).lt k hk)
  obtain ⟨L, hL⟩ : ∃ L, L = w.heap.size := ⟨_, rfl⟩
  rw [← hL] at f0 f1 f2 f3 f4 f5 HX ⊢
  generalize w.alloc (.cells (opV p) 35) = X at *
  clear hst hL hk H
  go_wp2_with fail
  refine ((unhide HX).fuseL p.word).mono ?_
  rintro e X1 ⟨rfl, hT, hS⟩
  have f0' := (hS.cell (Or.inr rfl) 0).trans f0
  have f1' := (hS.cell (Or.inr rfl) 1).trans f1
  have f2' := (hS.cell (Or.inr rfl) 2).trans f2
  have f3' := (hS.cell (Or.inr rfl) 3).trans f3
  have f4' := (hS.cell (Or.inr rfl) 4).trans f4
  have f5' := (hS.cell (Or.inr rfl) 5).trans f5
  clear f0 f1 f2 f3 f4 f5
  have f0 := f0'
  have f1 := f1'
  have f2 := f2'
  have f3 := f3'
  have f4 := f4'
  have f5 := f5'
  clear f0' f1' f2' f3' f4' f5'
  have HSA2 : Hid (Same G w _) := (unhide HSA).trans fun k hk => hS k (Or.inl hk)
  clear HSA HX
  have HSA := HSA2
  have HX := hide hT
  clear HSA2 hT hS
  go_wp2_with fail
  refine ((unhide HX).fuseR p.word).mono ?_
  rintro e X2 ⟨rfl, hT, hS⟩
  have f0' := (hS.cell (Or.inr rfl) 0).trans f0
  have f1' := (hS.cell (Or.inr rfl) 1).trans f1
  have f2' := (hS.cell (Or.inr rfl) 2).trans f2
  have f3' := (hS.cell (Or.inr rfl) 3).trans f3
  have f4' := (hS.cell (Or.inr rfl) 4).trans f4
  have f5' := (hS.cell (Or.inr rfl) 5).trans f5
  clear f0 f1 f2 f3 f4 f5
  have f0 := f0'
  have f1 := f1'
  have f2 := f2'
  have f3 := f3'
  have f4 := f4'
  have f5 := f5'
  clear f0' f1' f2' f3' f4' f5'
  have HSA2 : Hid (Same G w _) := (unhide HSA).trans fun k hk => hS k (Or.inl hk)
  clear HSA HX
  have HSA := HSA2
  have HX := hide hT
  clear HSA2 hT hS
  obtain ⟨A2, hA2⟩ : ∃ A2, A2 = A.fused p.word := ⟨_, rfl⟩
  rw [← hA2] at HX hok2 ⊢
  have hn := hok2.2.1
  have HA2 := hide hA2
  clear hA2
  go_wp2_with fail
  obtain ⟨fz, hfz⟩ : ∃ fz, fz = A2.hasZ p.line := ⟨_, rfl⟩
  have CL := hide ((unhide HX).loadL hn p.line)
  rw [← hfz] at CL
  have HFZ := hide hfz
  have hsl := store_line fz
  have hsz := lnV_size fz
  clear hfz
  refine (unhide CL).mono ?_
  rintro e V1 ⟨rfl, hT, hS⟩
  have g2 := (hS.cell (Or.inr rfl) 2).trans f2
  have g2' : (V1.alloc (.cells (lnV fz) 50)).cell? ⟨L, 2, none⟩ = some (.int .i64 p.line) := ((Keeps.refl (fun _ => False) V1).alloc _).cellOf g2 id
  have HT1 := hide (hT.alloc (.cells (lnV fz) 50))
  have HB1 := hide (heap_new V1 (.cells (lnV fz) 50))
  have HS1 : Hid (Same G w (V1.alloc (.cells (lnV fz) 50))) := (unhide HSA).trans fun k hk => (Below.heap_alloc _ _ _ (hT.lt k (Or.inl hk))).trans (hS k (Or.inl hk))
  clear f0 f1 f2 f3 f4 f5 HX HSA hS hT g2 CL
  go_wp2_with fail
  have CR := hide ((unhide HT1).loadR (ok_mono hok2 (by omega)) p.line)
  rw [← unhide HFZ] at CR
  refine (unhide CR).mono ?_
  rintro e V2 ⟨rfl, hT, hS⟩
  obtain ⟨M1, hM1⟩ : ∃ M1, M1 = V1.heap.size := ⟨_, rfl⟩
  rw [← hM1] at hT hS HB1 ⊢
  have HB1' : Hid ((V2.alloc (.cells (lnV fz) 50)).heap[M1]? = some (.cells (lnV fz) 50 (0, 0))) := by
    have h1 := (hS M1 (Or.inr rfl)).trans (unhide HB1)
    exact (Below.heap_alloc _ _ _ (lt_of_block h1)).trans h1
  have HB2 := hide (heap_new V2 (.cells (lnV fz) 50))
  have HT2 := hide ((hT.alloc (.cells (lnV fz) 50)).less (G' := G) fun k hk => Or.inl (Or.inl (Or.inl hk)))
  have HS2 : Hid (Same G w (V2.alloc (.cells (lnV fz) 50))) := (unhide HS1).trans fun k hk => (Below.heap_alloc _ _ _ (hT.lt k (Or.inl (Or.inl hk)))).trans (hS k (Or.inl (Or.inl hk)))
  clear HT1 HB1 HS1 CR hT hS hM1 g2'
  obtain ⟨M2, hM2⟩ : ∃ M2, M2 = V2.heap.size := ⟨_, rfl⟩
  rw [← hM2] at HB2
  have s8 : (Try.prog.info? 50).map (·.size) = some (lnV fz).size := by rw [lnV_size]; exact lsize
  go_upto_region 22 with fail
  rw [← hM2]
  generalize V2.alloc (.cells (lnV fz) 50) = Z at *
  clear hM2 hsl
  go_wp2_with (first | (refine wpList_load_row_g (by rfl) 50 (.tmp 7) rfl M1 rfl _ _ _ _ (unhide HB1') Try.underlying50 rfl s8 ?_) | (refine wpList_load_row_g (by rfl) 50 (.tmp 9) rfl M2 rfl _ _ _ _ (unhide HB2) Try.underlying50 rfl s8 ?_) | (refine wpList_eql (by rfl) (.tmp 112) (.tmp 113) rfl fz fz rfl rfl ?_; rw [eqL_refl]))
  go_ret
  exact ⟨rfl, by first | exact unhide HT2 | (rw [← unhide HA2]; exact unhide HT2), unhide HS2⟩

theorem does_crash (h : Two W w G b y A A) (hok : A.ok 999) (p : OpV) (hk : kindN p.kind 12 = 9) (k64 : In64 p.kind) (hi : IntsAt W p.ka p.keep) (hz : ∀ z ∈ p.keep, In64 z) (hl : p.keep.length ≤ 9223372036854775807) :
    Calls Try.prog 18 #[.pointer (some ⟨b, 0, none⟩), .pointer (some ⟨y, 0, none⟩), .agg (opV p)] w (Did W w G b y (A.crash p.keep)) := by
  have hok2 := ok_crash hok p.keep
  have HI := hide hi
  have HZ := hide hz
  clear hi hz
  have H := hide h
  have OP := opIn_new w p 35
  obtain ⟨f0, f1, f2, f3, f4, f5⟩ := OP
  have hst := store_op p
  clear h
  go_enter Try.func18, Try.ntmps18
  go_wp2_with fail
  refine (kind_any p.kind k64 12 (by decide) (by decide) _).mono ?_
  rintro e V ⟨rfl, rfl⟩
  rw [hk]
  have HX := hide ((unhide H).alloc (.cells (opV p) 35))
  have HSA : Hid (Same G w (w.alloc (.cells (opV p) 35))) := fun k hk => Below.heap_alloc _ _ _ ((unhide H).lt k hk)
  obtain ⟨L, hL⟩ : ∃ L, L = w.heap.size := ⟨_, rfl⟩
  rw [← hL] at f0 f1 f2 f3 f4 f5 HX ⊢
  generalize w.alloc (.cells (opV p) 35) = X at *
  clear hst hL hk H
  go_wp2_with fail
  refine ((unhide HX).crashL (ok_mono hok (by omega)) p.ka p.keep p.kcap (unhide HZ) hl (unhide HI)).mono ?_
  rintro e X1 ⟨rfl, hT, hS⟩
  have f0' := (hS.cell (Or.inr rfl) 0).trans f0
  have f1' := (hS.cell (Or.inr rfl) 1).trans f1
  have f2' := (hS.cell (Or.inr rfl) 2).trans f2
  have f3' := (hS.cell (Or.inr rfl) 3).trans f3
  have f4' := (hS.cell (Or.inr rfl) 4).trans f4
  have f5' := (hS.cell (Or.inr rfl) 5).trans f5
  clear f0 f1 f2 f3 f4 f5
  have f0 := f0'
  have f1 := f1'
  have f2 := f2'
  have f3 := f3'
  have f4 := f4'
  have f5 := f5'
  clear f0' f1' f2' f3' f4' f5'
  have HSA2 : Hid (Same G w _) := (unhide HSA).trans fun k hk => hS k (Or.inl hk)
  clear HSA HX
  have HSA := HSA2
  have HX := hide hT
  clear HSA2 hT hS
  go_wp2_with fail
  refine ((unhide HX).crashR (ok_mono hok (by omega)) p.ka p.keep p.kcap (unhide HZ) hl (unhide HI)).mono ?_
  rintro e X2 ⟨rfl, hT, hS⟩
  have f0' := (hS.cell (Or.inr rfl) 0).trans f0
  have f1' := (hS.cell (Or.inr rfl) 1).trans f1
  have f2' := (hS.cell (Or.inr rfl) 2).trans f2
  have f3' := (hS.cell (Or.inr rfl) 3).trans f3
  have f4' := (hS.cell (Or.inr rfl) 4).trans f4
  have f5' := (hS.cell (Or.inr rfl) 5).trans f5
  clear f0 f1 f2 f3 f4 f5
  have f0 := f0'
  have f1 := f1'
  have f2 := f2'
  have f3 := f3'
  have f4 := f4'
  have f5 := f5'
  clear f0' f1' f2' f3' f4' f5'
  have HSA2 : Hid (Same G w _) := (unhide HSA).trans fun k hk => hS k (Or.inl hk)
  clear HSA HX
  have HSA := HSA2
  have HX := hide hT
  clear HSA2 hT hS
  obtain ⟨A2, hA2⟩ : ∃ A2, A2 = A.crash p.keep := ⟨_, rfl⟩
  rw [← hA2] at HX hok2 ⊢
  have hn := hok2.2.1
  have HA2 := hide hA2
  clear hA2
  go_wp2_with fail
  obtain ⟨fz, hfz⟩ : ∃ fz, fz = A2.hasZ p.line := ⟨_, rfl⟩
  have CL := hide ((unhide HX).loadL hn p.line)
  rw [← hfz] at CL
  have HFZ := hide hfz
  have hsl := store_line fz
  have hsz := lnV_size fz
  clear hfz
  refine (unhide CL).mono ?_
  rintro e V1 ⟨rfl, hT, hS⟩
  have g2 := (hS.cell (Or.inr rfl) 2).trans f2
  have g2' : (V1.alloc (.cells (lnV fz) 50)).cell? ⟨L, 2, none⟩ = some (.int .i64 p.line) := ((Keeps.refl (fun _ => False) V1).alloc _).cellOf g2 id
  have HT1 := hide (hT.alloc (.cells (lnV fz) 50))
  have HB1 := hide (heap_new V1 (.cells (lnV fz) 50))
  have HS1 : Hid (Same G w (V1.alloc (.cells (lnV fz) 50))) := (unhide HSA).trans fun k hk => (Below.heap_alloc _ _ _ (hT.lt k (Or.inl hk))).trans (hS k (Or.inl hk))
  clear f0 f1 f2 f3 f4 f5 HX HSA hS hT g2 CL
  go_wp2_with fail
  have CR := hide ((unhide HT1).loadR (ok_mono hok2 (by omega)) p.line)
  rw [← unhide HFZ] at CR
  refine (unhide CR).mono ?_
  rintro e V2 ⟨rfl, hT, hS⟩
  obtain ⟨M1, hM1⟩ : ∃ M1, M1 = V1.heap.size := ⟨_, rfl⟩
  rw [← hM1] at hT hS HB1 ⊢
  have HB1' : Hid ((V2.alloc (.cells (lnV fz) 50)).heap[M1]? = some (.cells (lnV fz) 50 (0, 0))) := by
    have h1 := (hS M1 (Or.inr rfl)).trans (unhide HB1)
    exact (Below.heap_alloc _ _ _ (lt_of_block h1)).trans h1
  have HB2 := hide (heap_new V2 (.cells (lnV fz) 50))
  have HT2 := hide ((hT.alloc (.cells (lnV fz) 50)).less (G' := G) fun k hk => Or.inl (Or.inl (Or.inl hk)))
  have HS2 : Hid (Same G w (V2.alloc (.cells (lnV fz) 50))) := (unhide HS1).trans fun k hk => (Below.heap_alloc _ _ _ (hT.lt k (Or.inl (Or.inl hk)))).trans (hS k (Or.inl (Or.inl hk)))
  clear HT1 HB1 HS1 CR hT hS hM1 g2'
  obtain ⟨M2, hM2⟩ : ∃ M2, M2 = V2.heap.size := ⟨_, rfl⟩
  rw [← hM2] at HB2
  have s8 : (Try.prog.info? 50).map (·.size) = some (lnV fz).size := by rw [lnV_size]; exact lsize
  go_upto_region 22 with fail
  rw [← hM2]
  generalize V2.alloc (.cells (lnV fz) 50) = Z at *
  clear hM2 hsl
  go_wp2_with (first | (refine wpList_load_row_g (by rfl) 50 (.tmp 7) rfl M1 rfl _ _ _ _ (unhide HB1') Try.underlying50 rfl s8 ?_) | (refine wpList_load_row_g (by rfl) 50 (.tmp 9) rfl M2 rfl _ _ _ _ (unhide HB2) Try.underlying50 rfl s8 ?_) | (refine wpList_eql (by rfl) (.tmp 112) (.tmp 113) rfl fz fz rfl rfl ?_; rw [eqL_refl]))
  go_ret
  exact ⟨rfl, by first | exact unhide HT2 | (rw [← unhide HA2]; exact unhide HT2), unhide HS2⟩

end

end Go.Proofs.Ytkoaajcfnnpiaaa
