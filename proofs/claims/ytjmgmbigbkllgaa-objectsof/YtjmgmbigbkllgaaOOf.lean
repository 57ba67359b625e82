
/-
  Of: a store of what was committed, or an error.
-/
import Derived.Test.YtjmgmbigbkllgaaOClaim
import Derived.Test.YtjmgmbigbkllgaaOBuilt
namespace Go.Proofs.Ytjmgmbigbkllgaa
open Go.ChangeShapes Go.WideShapes Go.ChangeAt Go.RowKit Go.Joins
set_option maxRecDepth 10000
set_option linter.unusedVariables false
set_option linter.unusedSimpArgs false

theorem yieldsIf_build5 {P : Program} {ops : Array Oper} {S : World → Prop} {op : Oper} {a : Act} (hw : Region.wanted op (yielded ops a.tmps) = true) (t : TypeId) (x0 x1 x2 x3 x4 : Operand) (ho : op.op = .build t #[(0, x0), (1, x1), (2, x2), (3, x3), (4, x4)])
    (u0 u1 u2 u3 u4 : Value) (h0 : a.eval x0 = u0) (h1 : a.eval x1 = u1) (h2 : a.eval x2 = u2) (h3 : a.eval x3 = u3) (h4 : a.eval x4 = u4) (cs : Array Value) (hb : P.built t [(0, u0), (1, u1), (2, u2), (3, u3), (4, u4)] = some cs) : YieldsIf P ops S op (.agg cs) a :=
  Or.inl ⟨hw, fun w _ => by
    have h := run_build (P := P) w t #[(0, u0), (1, u1), (2, u2), (3, u3), (4, u4)] cs hb
    unfold execOp
    simp [ho, h0, h1, h2, h3, h4, Sem.run_bind, h]⟩

/-- What Of leaves: a store, or none. -/
def OfPost (W w : World) (m : Nat) (St : Mm → World → (Nat → Prop) → Prop) (F : Fr) (t : Nat → En) (d : Nat → Int) (A : Mm) (G : Nat → Prop) (e : Ending) (w' : World) : Prop :=
  if ofB F t d = true then ∃ b, e = .returned (.tuple #[.pointer (some ⟨b, 0, none⟩), .int .i64 0]) ∧ SHas W m b St (ofS F t d) A w' G ∧ Same G w w'
  else Done (St A) w G (.tuple #[.pointer none, .int .i64 21]) e w'

theorem sof_bad {W w : World} {m : Nat} {St : Mm → World → (Nat → Prop) → Prop} {A : Mm} {G : Nat → Prop} (M : MemL W m St) (h : St A w G) (z : Int) (t : Nat → En) (d : Nat → Int) (hz : z < 0 ∨ (A.n : Int) < z ∨ 1024 < (A.n : Int)) :
    Calls Try.prog 11 #[.pointer (some ⟨m, 0, none⟩), .int .i64 z, .agg (tabV t), .agg (dirV d)] w (Done (St A) w G (.tuple #[.pointer none, .int .i64 1])) := by
  have T0 := hide (M.stay A)
  have O0 := hide (((Held.start (unhide T0) h).alloc (unhide T0) (.cells (tabV t) 59)).alloc (unhide T0) (.cells (dirV d) 60))
  have CL := hide (M.lines _ _ A (unhide O0).st)
  have CN := hide (fun (w' : World) => fnew_bad w' z (A.n : Int) hz)
  clear h hz
  generalize tabV t = TV at *
  generalize dirV d = DV at *
  go_enter Try.func11, Try.ntmps11
  go_wp2_with fail
  refine (unhide CL).mono ?_
  rintro e w1 ⟨rfl, hw1⟩
  subst hw1
  go_wp2_with fail
  refine (unhide CN _).mono ?_
  rintro e w1 ⟨rfl, hw1⟩
  subst hw1
  go_wp2_with fail
  go_ret2
  exact (unhide O0).done (unhide T0) _

set_option maxHeartbeats 4000000 in
theorem sof_any {W w : World} {m : Nat} {St : Mm → World → (Nat → Prop) → Prop} {A : Mm} {G : Nat → Prop} (M : MemL W m St) (h : St A w G) (lo : Nat) (t : Nat → En) (d : Nat → Int) (h1 : lo ≤ A.n) (h2 : A.n ≤ 1024) :
    Calls Try.prog 11 #[.pointer (some ⟨m, 0, none⟩), .int .i64 (lo : Int), .agg (tabV t), .agg (dirV d)] w (OfPost W w m St (Fr.new lo A.n) t d A G) := by
  have T0 := hide (M.stay A)
  have O0 := hide (((Held.start (unhide T0) h).alloc (unhide T0) (.cells (tabV t) 59)).alloc (unhide T0) (.cells (dirV d) 60))
  have CL := hide (M.lines _ _ A (unhide O0).st)
  have CN := hide (fun (w' : World) => fnew_any w' lo A.n h1 h2)
  have BS := hide (built_store m (Fr.new lo A.n) t d)
  have s147 := s147_tab t
  have s8 := s8_dir d
  have s1026 : (Try.prog.info? 91).map (·.size) = some (frV (Fr.new lo A.n)).size := by rw [frV_size]; exact frsize
  have S1 := hide (sto_one m ⟨Fr.new lo A.n, t, t, d, fun _ => ze, false⟩)
  have FOK := hide (new_ok h1 h2)
  have hsz : (w.alloc (.cells (tabV t) 59)).heap.size = w.heap.size + 1 := by simp
  obtain ⟨g6, hg6⟩ : ∃ g6, g6 = w.heap.size := ⟨_, rfl⟩
  obtain ⟨g7, hg7⟩ : ∃ g7, g7 = g6 + 1 := ⟨_, rfl⟩
  rw [hsz, ← hg6, ← hg7] at O0
  clear h h1 h2
  obtain ⟨TV, hTV⟩ : ∃ TV, TV = tabV t := ⟨_, rfl⟩
  obtain ⟨DV, hDV⟩ : ∃ DV, DV = dirV d := ⟨_, rfl⟩
  rw [← hTV, ← hDV] at O0 BS CL
  rw [← hTV] at s147
  rw [← hDV] at s8
  rw [← hTV, ← hDV]
  clear hTV hDV hsz
  go_enter Try.func11, Try.ntmps11
  go_wp2_with fail
  refine (unhide CL).mono ?_
  rintro e w1 ⟨rfl, hw1⟩
  subst hw1
  go_wp2_with fail
  rw [← hg6, ← hg7]
  clear hg6 hg7
  generalize (w.alloc (.cells TV 59)).alloc (.cells DV 60) = w1 at *
  refine (unhide CN _).mono ?_
  rintro e w2 ⟨fb, rfl, hf, hk, hfs⟩
  have O1 := hide ((unhide O0).keeps (unhide T0) hk)
  have HF := hide hf
  clear hf hk hfs O0 CN CL
  go_upto_region 4 with fail
  have O2 := hide ((unhide O1).drew (unhide T0))
  have HF2 : Hid (FRep w2.drew fb (Fr.new lo A.n)) := unhide HF
  clear O1 HF
  have RT : w2.drew.rangeAt g6 0 TV.toList := fun j v hv => by rw [cell_of_block ((unhide O2).at g6 (.cells TV 59) (by simp)), Nat.zero_add, ← Array.getElem?_toList]; exact hv
  have RD : w2.drew.rangeAt g7 0 DV.toList := fun j v hv => by rw [cell_of_block ((unhide O2).at g7 (.cells DV 60) (by simp)), Nat.zero_add, ← Array.getElem?_toList]; exact hv
  have RF : w2.drew.rangeAt fb 0 (frV (Fr.new lo A.n)).toList := fun j v hv => by rw [cell_of_block (unhide HF2), Nat.zero_add, ← Array.getElem?_toList]; exact hv
  refine wp_region_noPanic ?_
  refine wp_region_held_drew (S := fun w' => w'.rangeAt g6 0 TV.toList ∧ w'.rangeAt g7 0 DV.toList ∧ w'.rangeAt fb 0 (frV (Fr.new lo A.n)).toList) (by kernel_rfl) ⟨RT, RD, RF⟩ (fun hHeld => ?_)
  generalize w2.drew = w3 at *
  clear HF2
  refine take_at 0 22 (v := ?_) rfl rfl (by kernel_rfl) (by kernel_rfl) (by kernel_rfl) (Or.inl ⟨by rfl, ?_⟩) hHeld ?_
  rotate_left
  · intro w hSw; go_simp; with_reducible rfl
  simp only [Act.put, List.setIfInBounds_toArray, List.set_cons_zero, List.set_cons_succ]
  refine take_at 1 23 (v := ?_) rfl rfl (by kernel_rfl) (by kernel_rfl) (by kernel_rfl) (Or.inl ⟨by rfl, ?_⟩) hHeld ?_
  rotate_left
  · intro w hSw; go_simp; with_reducible rfl
  simp only [Act.put, List.setIfInBounds_toArray, List.set_cons_zero, List.set_cons_succ]
  refine take_at 2 24 (v := ?_) rfl rfl (by kernel_rfl) (by kernel_rfl) (by kernel_rfl) (Or.inl ⟨by rfl, ?_⟩) hHeld ?_
  rotate_left
  · intro w hSw; go_simp; with_reducible rfl
  simp only [Act.put, List.setIfInBounds_toArray, List.set_cons_zero, List.set_cons_succ]
  refine take_at 3 25 rfl rfl (by kernel_rfl) (by kernel_rfl) (by kernel_rfl) (yieldsIf_load_mid (by rfl) 91 _ rfl fb 0 rfl (frV (Fr.new lo A.n)).toList _ (fun w' h => h.2.2) Try.underlying91 rfl (by rw [Array.length_toList]; exact s1026)) hHeld ?_
  simp only [Act.put, List.setIfInBounds_toArray, List.set_cons_zero, List.set_cons_succ]
  refine take_at 4 26 rfl rfl (by kernel_rfl) (by kernel_rfl) (by kernel_rfl) (yieldsIf_load_mid (by rfl) 59 _ rfl g6 0 rfl TV.toList _ (fun w' h => h.1) Try.underlying59 rfl (by rw [Array.length_toList]; exact s147)) hHeld ?_
  simp only [Act.put, List.setIfInBounds_toArray, List.set_cons_zero, List.set_cons_succ]
  refine take_at 5 27 rfl rfl (by kernel_rfl) (by kernel_rfl) (by kernel_rfl) (yieldsIf_load_mid (by rfl) 59 _ rfl g6 0 rfl TV.toList _ (fun w' h => h.1) Try.underlying59 rfl (by rw [Array.length_toList]; exact s147)) hHeld ?_
  simp only [Act.put, List.setIfInBounds_toArray, List.set_cons_zero, List.set_cons_succ]
  refine take_at 6 28 rfl rfl (by kernel_rfl) (by kernel_rfl) (by kernel_rfl) (yieldsIf_load_mid (by rfl) 60 _ rfl g7 0 rfl DV.toList _ (fun w' h => h.2.1) Try.underlying60 rfl (by rw [Array.length_toList]; exact s8)) hHeld ?_
  simp only [Act.put, List.setIfInBounds_toArray, List.set_cons_zero, List.set_cons_succ]
  refine take_at 7 29 rfl rfl (by kernel_rfl) (by kernel_rfl) (by kernel_rfl) (yieldsIf_build5 (by rfl) 93 (.tmp 22) (.tmp 25) (.tmp 26) (.tmp 27) (.tmp 28) rfl (.pointer (some ⟨m, 0, none⟩)) (.agg (frV (Fr.new lo A.n))) (.agg TV) (.agg TV) (.agg DV) rfl rfl rfl rfl rfl _ (unhide BS)) hHeld ?_
  simp only [Act.put, List.setIfInBounds_toArray, List.set_cons_zero, List.set_cons_succ]
  have O3 := hide ((unhide O2).alloc (unhide T0) (.cells (tab 1477 (stF m ⟨Fr.new lo A.n, t, t, d, fun _ => ze, false⟩)) 93))
  refine wpAnyH_ready (rs := [8]) (by kernel_rfl) (by simp) ?_
  refine AllReadyH.cons rfl (fun K hK => ?_) AllReadyH.nil
  generalize hSV : tab 1477 (stF m ⟨Fr.new lo A.n, t, t, d, fun _ => ze, false⟩) = SV at *
  refine (if_pos (by rfl)).mpr ?_
  go_wp2_with fail
  have RX : Hid ((w3.alloc (.cells SV 93)).rangeAt g6 0 TV.toList ∧ (w3.alloc (.cells SV 93)).rangeAt g7 0 DV.toList ∧ (w3.alloc (.cells SV 93)).rangeAt fb 0 (frV (Fr.new lo A.n)).toList) := ⟨World.rangeAt_alloc RT _, World.rangeAt_alloc RD _, World.rangeAt_alloc RF _⟩
  clear hHeld RT RD RF
  refine hK.out _ _ (unhide RX) (fun hNew => ?_)
  have hHeld := hNew
  clear hK K hNew RX s1026 s147 s8 BS S1
  have HN := hide (heap_new w3 (.cells SV 93))
  have HLT : Hid (∀ k, G k → k ≠ w3.heap.size) := fun k hk e => by have := (M.stay A).lt _ _ (unhide O2).1 k (Or.inl hk); omega
  have HNEW := hide ((M.stay A).sz _ _ (unhide O2).1).size
  clear O2
  obtain ⟨g, hg⟩ : ∃ g, g = w3.heap.size := ⟨_, rfl⟩
  rw [← hg] at O3 HN HLT HNEW ⊢
  clear hg
  generalize w3.alloc (.cells SV 93) = w4 at *
  refine take_at 9 12 (v := ?_) rfl rfl (by kernel_rfl) (by kernel_rfl) (by kernel_rfl) (Or.inl ⟨by rfl, ?_⟩) hHeld ?_
  rotate_left
  · intro w hSw; go_simp; with_reducible rfl
  simp only [Act.put, List.setIfInBounds_toArray, List.set_cons_zero, List.set_cons_succ]
  refine wpAnyH_done (by kernel_rfl) ?_ _
  refine NoPanic.normal ?_
  clear hHeld
  have H5 : Hid (SHas W m g St ⟨Fr.new lo A.n, t, t, d, fun _ => ze, false⟩ A w4 G ∧ Same G w w4) := ⟨⟨Blk.of_tab (by rw [hSV]; exact unhide HN), (M.stay A).ls _ _ _ (unhide O3).1 (fun k hk => by
      rcases hk with hk | rfl
      · exact Or.inl hk
      · exact Or.inr ⟨_, List.mem_cons_self⟩), fun hk => unhide HLT _ hk rfl, unhide HNEW⟩, (unhide O3).2.2⟩
  have CC := hide (claim_any M (unhide H5).1 (unhide FOK))
  have HOB : Hid (ofB (Fr.new lo A.n) t d = (Fr.new lo A.n).takesB (claimL t d)) := rfl
  have HSM := hide (unhide H5).2
  clear O3 HN HLT HNEW hSV H5
  go_wp2_with fail
  refine (unhide CC).mono ?_
  rintro e w5 ⟨rfl, F, hF, hh, hs, hT⟩
  have HH := hide hh
  have HS := hide ((unhide HSM).trans hs)
  have HTF := hide hT
  have EQ : Hid ((Sto.mk (Fr.new lo A.n) t t d (fun _ => ze) false).F.takesB (claimL (Sto.mk (Fr.new lo A.n) t t d (fun _ => ze) false).w (Sto.mk (Fr.new lo A.n) t t d (fun _ => ze) false).d) = ofB (Fr.new lo A.n) t d) := rfl
  rw [unhide EQ]
  rw [unhide EQ] at HTF
  clear hh hs hT CC HSM EQ
  cases hB : ofB (Fr.new lo A.n) t d with
  | true =>
    have HB := hide hB
    have hFE := hide (unhide HTF hB)
    clear hB HTF
    go_wp2_with fail
    go_ret2
    unfold OfPost
    rw [if_pos (unhide HB)]
    refine ⟨g, rfl, (unhide HH).eqS ?_, unhide HS⟩
    rw [unhide hFE]; rfl
  | false =>
    have HB := hide hB
    clear hB HTF
    go_wp2_with fail
    go_ret2
    unfold OfPost
    rw [if_neg (by rw [unhide HB]; decide)]
    exact ⟨rfl, (M.stay A).ls _ _ _ (unhide HH).st (fun k hk => Or.inl hk), unhide HS⟩

end Go.Proofs.Ytjmgmbigbkllgaa
