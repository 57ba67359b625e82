
/-
  The document's Set: a word of an object is set, in its own line, or in a copy.
-/
import Derived.Test.YtinhnnnehhlceaaGreatYLay
import Derived.Test.YtinhnnnehhlceaaGreatPkCh
namespace Go.Proofs.YtinhnnnehhlceaaGreat
open Go.ChangeShapes Go.WideShapes Go.ChangeAt Go.RowKit Go.Joins
set_option maxRecDepth 10000
set_option linter.unusedVariables false
set_option linter.unusedSimpArgs false

theorem YHas.line {W w : World} {z y f g : Nat} {St : Mm → World → (Nat → Prop) → Prop} {S : Sto} {K : Nat → En} {A : Mm} {G : Nat → Prop} (M : MemR W z St) (h : YHas W z y f g St S K A w G) (i : Nat) (hi : i < 49) (l : Int) :
    YHas W z y f g St (S.withW i (moved (S.w i) l)) K A (w.setCell ⟨y, 2 + i * 3 + 2, none⟩ (.int .i64 l)) G ∧ Same G w (w.setCell ⟨y, 2 + i * 3 + 2, none⟩ (.int .i64 l)) :=
  h.turned M (YRep.line h.rep i hi l) rfl (Keeps.setCell (F := (· = y)) (p := ⟨y, _, none⟩) (Keeps.refl _ _) rfl _)
set_option maxHeartbeats 2000000 in
theorem yset_none {W w : World} {z y f g : Nat} {St : Mm → World → (Nat → Prop) → Prop} {S : Sto} {K : Nat → En} {A : Mm} {G : Nat → Prop} (h : YHas W z y f g St S K A w G) (x q v : Int) (hn : ¬ (is8 q ∧ S.findE x = 0)) :
    Calls Tryz.prog 20 #[.pointer (some ⟨y, 0, none⟩), .int .i64 x, .int .i64 q, .int .u64 v] w (Done (YHas W z y f g St S K A) w G (.int .i64 (S.setE A x q v))) := by
  have HH := hide h
  by_cases hx : x < 0
  · have HV : Hid (S.setE A x q v = 1) := by
      have e : S.findE x = 1 := if_neg (by omega)
      show _ = _; unfold Sto.setE; rw [e]; split
      · rfl
      · rfl
    clear h hn
    go_enter Tryz.func20, Tryz.ntmps20
    go_wp2_with fail
    go_ret
    rw [unhide HV]
    exact ⟨rfl, unhide HH, fun _ _ => rfl⟩
  · by_cases hx2 : (49 : Int) ≤ x
    · have HV : Hid (S.setE A x q v = 1) := by
        have e : S.findE x = 1 := if_neg (by omega)
        show _ = _; unfold Sto.setE; rw [e]; split
        · rfl
        · rfl
      clear h hn
      go_enter Tryz.func20, Tryz.ntmps20
      go_wp2_with fail
      go_ret
      rw [unhide HV]
      exact ⟨rfl, unhide HH, fun _ _ => rfl⟩
    · by_cases hq : q < 0
      · have HV : Hid (S.setE A x q v = 1) := by show _ = _; unfold Sto.setE; exact if_neg (fun c => by unfold is8 at c; omega)
        clear h hn
        go_enter Tryz.func20, Tryz.ntmps20
        go_wp2_with fail
        go_ret
        rw [unhide HV]
        exact ⟨rfl, unhide HH, fun _ _ => rfl⟩
      · by_cases hq2 : (7 : Int) < q
        · have HV : Hid (S.setE A x q v = 1) := by show _ = _; unfold Sto.setE; exact if_neg (fun c => by unfold is8 at c; omega)
          clear h hn
          go_enter Tryz.func20, Tryz.ntmps20
          go_wp2_with fail
          go_ret
          rw [unhide HV]
          exact ⟨rfl, unhide HH, fun _ _ => rfl⟩
        · have h8 : is8 q := by unfold is8; omega
          obtain ⟨i, rfl⟩ : ∃ i : Nat, x = (i : Int) := ⟨x.toNat, by omega⟩
          have hi : i < 49 := by omega
          have hi1 : (i : Int) < 49 := by omega
          have e : S.findE (i : Int) = if (S.w i).k = 0 then 30 else 0 := by
            unfold Sto.findE; rw [if_pos ⟨by omega, by omega⟩, Int.toNat_natCast]
          have hk0 : (S.w i).k = 0 := Classical.byContradiction fun c => hn ⟨h8, by rw [e, if_neg c]⟩
          have HV : Hid (S.setE A (i : Int) q v = 30) := by show _ = _; unfold Sto.setE; rw [if_pos h8, e, if_pos hk0]; rfl
          have ck := h.rep.ck i hi
          rw [hk0] at ck
          clear h hn e hk0 h8 hx hx2
          go_enter Tryz.func20, Tryz.ntmps20
          go_wp2_with fail
          go_ret
          rw [unhide HV]
          exact ⟨rfl, unhide HH, fun _ _ => rfl⟩

/-- Its line is its own. -/
theorem yset_own {W w : World} {z y f g : Nat} {St : Mm → World → (Nat → Prop) → Prop} {S : Sto} {K : Nat → En} {A : Mm} {G : Nat → Prop} (M : MemR W z St) (h : YHas W z y f g St S K A w G) (hm : Mks S K) (hA : A.ok 800) (x q v : Int) (hq : is8 q) (hf : S.findE x = 0) (ho : S.own (S.line x) = true) :
    Calls Tryz.prog 20 #[.pointer (some ⟨y, 0, none⟩), .int .i64 x, .int .i64 q, .int .u64 v] w (Done (YHas W z y f g St S K (A.storeZ (S.line x) q v)) w G (.int .i64 (A.storeE (S.line x) q))) := by
  have T0 := hide (YHas.stay M y f g S K A)
  have O0 := hide (Held.start (unhide T0) h)
  have hz := findE_ok hf
  obtain ⟨i, rfl⟩ : ∃ i : Nat, x = (i : Int) := ⟨x.toNat, by omega⟩
  have hi : i < 49 := by omega
  have hi1 : (i : Int) < 49 := by omega
  have eL : S.line (i : Int) = (S.w i).l := by unfold Sto.line; rw [Int.toNat_natCast]
  have hkk := hz.2.2
  rw [Int.toNat_natCast] at hkk
  have CO := hide (yown_any h.rep hm i hi)
  have ck := h.rep.ck i hi
  have CLc := hide (fun w' (h' : YRep z f S K w' y) => h'.cl i hi)
  have hk1 : ((S.w i).k == 0) = false := by simpa using hkk
  obtain ⟨hq0, hq8⟩ := hq
  have hq7 : ¬ ((7 : Int) < q) := by omega
  rw [eL] at ho ⊢
  have hok := hide (ok_mono hA (show 800 ≤ 1000 by decide))
  clear h hf hz hA eL hkk hm
  generalize (S.w i).l = l at *
  generalize (S.w i).k = k at *
  go_enter Tryz.func20, Tryz.ntmps20
  go_wp2_with fail
  refine (unhide CO).mono ?_
  rintro e w1 ⟨rfl, hkp⟩
  have O1 := hide ((unhide O0).keeps (unhide T0) hkp)
  rw [ho]
  clear hkp CO O0 ck
  go_upto_region 6 with fail
  have O2 := hide ((unhide O1).drew (unhide T0))
  have SC : Hid (∀ (A' : Mm) (w' : World), Held W (YHas W z y f g St S K A') w w' G [] → w'.cell? ⟨y, 0, none⟩ = some (.pointer (some ⟨z, 0, none⟩)) ∧ w'.cell? ⟨y, 2 + i * 3 + 2, none⟩ = some (.int .i64 l)) := fun A' w' hO => ⟨hO.st.rep.c0, unhide CLc _ hO.st.rep⟩
  refine wp_region_noPanic ?_
  refine wp_region_held_drew (S := fun w' => w'.cell? ⟨y, 0, none⟩ = some (.pointer (some ⟨z, 0, none⟩)) ∧ w'.cell? ⟨y, 2 + i * 3 + 2, none⟩ = some (.int .i64 l)) (by kernel_rfl) (unhide SC _ _ (unhide O2)) (fun hHeld => ?_)
  clear O1
  generalize w1.drew = wd at *
  refine take_at 0 37 (v := ?_) rfl rfl (by kernel_rfl) (by kernel_rfl) (by kernel_rfl) (Or.inl ⟨by rfl, ?_⟩) hHeld ?_
  rotate_left
  · intro w hSw; go_simp; with_reducible rfl
  simp only [Act.put, List.setIfInBounds_toArray, List.set_cons_zero, List.set_cons_succ]
  refine take_at 1 38 (v := ?_) rfl rfl (by kernel_rfl) (by kernel_rfl) (by kernel_rfl) (Or.inl ⟨by rfl, ?_⟩) hHeld ?_
  rotate_left
  · intro w hSw; go_simp; with_reducible rfl
  simp only [Act.put, List.setIfInBounds_toArray, List.set_cons_zero, List.set_cons_succ]
  refine take_at 2 39 (v := ?_) rfl rfl (by kernel_rfl) (by kernel_rfl) (by kernel_rfl) (Or.inl ⟨by rfl, ?_⟩) hHeld ?_
  rotate_left
  · intro w hSw; go_simp; with_reducible rfl
  simp only [Act.put, List.setIfInBounds_toArray, List.set_cons_zero, List.set_cons_succ]
  refine take_at 3 40 (v := ?_) rfl rfl (by kernel_rfl) (by kernel_rfl) (by kernel_rfl) (Or.inl ⟨by rfl, ?_⟩) hHeld ?_
  rotate_left
  · intro w hSw; obtain ⟨s1, s2⟩ := hSw; go_simp; with_reducible rfl
  simp only [Act.put, List.setIfInBounds_toArray, List.set_cons_zero, List.set_cons_succ]
  refine take_at 4 41 (v := ?_) rfl rfl (by kernel_rfl) (by kernel_rfl) (by kernel_rfl) (Or.inl ⟨by rfl, ?_⟩) hHeld ?_
  rotate_left
  · intro w hSw; go_simp; with_reducible rfl
  simp only [Act.put, List.setIfInBounds_toArray, List.set_cons_zero, List.set_cons_succ]
  refine take_at 5 42 (v := ?_) rfl rfl (by kernel_rfl) (by kernel_rfl) (by kernel_rfl) (Or.inl ⟨by rfl, ?_⟩) hHeld ?_
  rotate_left
  · intro w hSw; go_simp; with_reducible rfl
  simp only [Act.put, List.setIfInBounds_toArray, List.set_cons_zero, List.set_cons_succ]
  refine take_at 6 43 (v := ?_) rfl rfl (by kernel_rfl) (by kernel_rfl) (by kernel_rfl) (Or.inl ⟨by rfl, ?_⟩) hHeld ?_
  rotate_left
  · intro w hSw; go_simp; with_reducible rfl
  simp only [Act.put, List.setIfInBounds_toArray, List.set_cons_zero, List.set_cons_succ]
  refine take_at 7 44 (v := ?_) rfl rfl (by kernel_rfl) (by kernel_rfl) (by kernel_rfl) (Or.inl ⟨by rfl, ?_⟩) hHeld ?_
  rotate_left
  · intro w hSw; go_simp; with_reducible rfl
  simp only [Act.put, List.setIfInBounds_toArray, List.set_cons_zero, List.set_cons_succ]
  refine take_at 8 45 (v := ?_) rfl rfl (by kernel_rfl) (by kernel_rfl) (by kernel_rfl) (Or.inl ⟨by rfl, ?_⟩) hHeld ?_
  rotate_left
  · intro w hSw; go_simp; with_reducible rfl
  simp only [Act.put, List.setIfInBounds_toArray, List.set_cons_zero, List.set_cons_succ]
  refine take_at 9 46 (v := ?_) rfl rfl (by kernel_rfl) (by kernel_rfl) (by kernel_rfl) (Or.inl ⟨by rfl, ?_⟩) hHeld ?_
  rotate_left
  · intro w hSw; go_simp; with_reducible rfl
  simp only [Act.put, List.setIfInBounds_toArray, List.set_cons_zero, List.set_cons_succ]
  refine take_at 10 47 (v := ?_) rfl rfl (by kernel_rfl) (by kernel_rfl) (by kernel_rfl) (Or.inl ⟨by rfl, ?_⟩) hHeld ?_
  rotate_left
  · intro w hSw; obtain ⟨s1, s2⟩ := hSw; go_simp; with_reducible rfl
  simp only [Act.put, List.setIfInBounds_toArray, List.set_cons_zero, List.set_cons_succ]
  refine take_at 11 48 (v := ?_) rfl rfl (by kernel_rfl) (by kernel_rfl) (by kernel_rfl) (Or.inl ⟨by rfl, ?_⟩) hHeld ?_
  rotate_left
  · intro w hSw; go_simp; with_reducible rfl
  simp only [Act.put, List.setIfInBounds_toArray, List.set_cons_zero, List.set_cons_succ]
  refine take_at 12 49 (v := ?_) rfl rfl (by kernel_rfl) (by kernel_rfl) (by kernel_rfl) (Or.inl ⟨by rfl, ?_⟩) hHeld ?_
  rotate_left
  · intro w hSw; go_simp; with_reducible rfl
  simp only [Act.put, List.setIfInBounds_toArray, List.set_cons_zero, List.set_cons_succ]
  refine wpAnyH_ready (rs := [13]) (by kernel_rfl) (by simp) ?_
  refine AllReadyH.cons rfl (fun K2 hK => ?_) AllReadyH.nil
  go_simp
  refine ((unhide O2).st.store M (unhide hok) l q v).mono ?_
  rintro e w3 ⟨rfl, h1, h2⟩
  have O5 := hide ((unhide O2).call (St' := YHas W z y f g St S K (A.storeZ l q v)) h1 h2)
  go_wp2_with fail
  clear hHeld
  refine hK.out _ _ (unhide SC _ _ (unhide O5)) (fun hNew => ?_)
  have hHeld := hNew
  clear hK K2 hNew h1 h2 O2 SC
  refine take_at 14 8 (v := ?_) rfl rfl (by kernel_rfl) (by kernel_rfl) (by kernel_rfl) (Or.inl ⟨by rfl, ?_⟩) hHeld ?_
  rotate_left
  · intro w hSw; go_simp; with_reducible rfl
  simp only [Act.put, List.setIfInBounds_toArray, List.set_cons_zero, List.set_cons_succ]
  refine wpAnyH_done (by kernel_rfl) ?_ _
  refine NoPanic.normal ?_
  go_wp2_with fail
  go_ret
  exact (unhide O5).done (YHas.stay M y f g _ _ _) _

/-- No frame is free. -/
theorem yset_full {W w : World} {z y f g : Nat} {St : Mm → World → (Nat → Prop) → Prop} {S : Sto} {K : Nat → En} {A : Mm} {G : Nat → Prop} (M : MemR W z St) (h : YHas W z y f g St S K A w G) (hm : Mks S K) (hS : S.ok) (x q v : Int) (hq : is8 q) (hf : S.findE x = 0) (ho : S.own (S.line x) = false) (hl : S.F.left = 0) :
    Calls Tryz.prog 20 #[.pointer (some ⟨y, 0, none⟩), .int .i64 x, .int .i64 q, .int .u64 v] w (Done (YHas W z y f g St S K A) w G (.int .i64 10)) := by
  have T0 := hide (YHas.stay M y f g S K A)
  have O0 := hide (Held.start (unhide T0) h)
  have hz := findE_ok hf
  obtain ⟨i, rfl⟩ : ∃ i : Nat, x = (i : Int) := ⟨x.toNat, by omega⟩
  have hi : i < 49 := by omega
  have hi1 : (i : Int) < 49 := by omega
  have eL : S.line (i : Int) = (S.w i).l := by unfold Sto.line; rw [Int.toNat_natCast]
  have hkk := hz.2.2
  rw [Int.toNat_natCast] at hkk
  have CO := hide (yown_any h.rep hm i hi)
  have ck := h.rep.ck i hi
  have CLc := hide (fun w' (h' : YRep z f S K w' y) => h'.cl i hi)
  have hk1 : ((S.w i).k == 0) = false := by simpa using hkk
  obtain ⟨hq0, hq8⟩ := hq
  have hq7 : ¬ ((7 : Int) < q) := by omega
  rw [eL] at ho
  have CL := hide (fun (w' : World) (h' : RFRep w' f g S.F) => rfleft_any h' hS.1)
  rw [hl] at CL
  clear h hf hz eL hkk hm hl
  generalize (S.w i).l = l at *
  generalize (S.w i).k = k at *
  go_enter Tryz.func20, Tryz.ntmps20
  go_wp2_with fail
  refine (unhide CO).mono ?_
  rintro e w1 ⟨rfl, hkp⟩
  have O1 := hide ((unhide O0).keeps (unhide T0) hkp)
  rw [ho]
  clear hkp CO O0 ck
  have c1 := (unhide O1).st.rep.c1
  go_wp2_with fail
  refine (unhide CL _ (unhide O1).st.fr).mono ?_
  rintro e w2 ⟨rfl, rfl⟩
  go_wp2_with fail
  go_ret
  exact (unhide O1).done (unhide T0) _

/-- Its line is loaded with an error. -/
theorem yset_dark {W w : World} {z y f g : Nat} {St : Mm → World → (Nat → Prop) → Prop} {S : Sto} {K : Nat → En} {A : Mm} {G : Nat → Prop} (M : MemR W z St) (h : YHas W z y f g St S K A w G) (hm : Mks S K) (hS : S.ok) (hA : A.ok 800) (x q v : Int) (hq : is8 q) (hf : S.findE x = 0) (ho : S.own (S.line x) = false) (hl : S.F.left ≠ 0) (hle : A.loadE (S.line x) ≠ 0) :
    Calls Tryz.prog 20 #[.pointer (some ⟨y, 0, none⟩), .int .i64 x, .int .i64 q, .int .u64 v] w (Done (YHas W z y f g St S K A) w G (.int .i64 (A.loadE (S.line x)))) := by
  have T0 := hide (YHas.stay M y f g S K A)
  have O0 := hide (Held.start (unhide T0) h)
  have hz := findE_ok hf
  obtain ⟨i, rfl⟩ : ∃ i : Nat, x = (i : Int) := ⟨x.toNat, by omega⟩
  have hi : i < 49 := by omega
  have hi1 : (i : Int) < 49 := by omega
  have eL : S.line (i : Int) = (S.w i).l := by unfold Sto.line; rw [Int.toNat_natCast]
  have hkk := hz.2.2
  rw [Int.toNat_natCast] at hkk
  have CO := hide (yown_any h.rep hm i hi)
  have ck := h.rep.ck i hi
  have CLc := hide (fun w' (h' : YRep z f S K w' y) => h'.cl i hi)
  have hk1 : ((S.w i).k == 0) = false := by simpa using hkk
  obtain ⟨hq0, hq8⟩ := hq
  have hq7 : ¬ ((7 : Int) < q) := by omega
  rw [eL] at ho hle ⊢
  have CL := hide (fun (w' : World) (h' : RFRep w' f g S.F) => rfleft_any h' hS.1)
  have hok1 := hide (ok_mono hA (show 800 ≤ 1000 by decide))
  obtain ⟨n, hnl⟩ : ∃ n, n = S.F.left := ⟨_, rfl⟩
  have hn0 : ((n : Int) == 0) = false := by simp; omega
  rw [← hnl] at CL
  clear h hf hz hA eL hl hnl hkk hm
  generalize (S.w i).l = l at *
  generalize (S.w i).k = k at *
  go_enter Tryz.func20, Tryz.ntmps20
  go_wp2_with fail
  refine (unhide CO).mono ?_
  rintro e w1 ⟨rfl, hkp⟩
  have O1 := hide ((unhide O0).keeps (unhide T0) hkp)
  rw [ho]
  clear hkp CO O0 ck
  have c1 := (unhide O1).st.rep.c1
  go_wp2_with fail
  refine (unhide CL _ (unhide O1).st.fr).mono ?_
  rintro e w2 ⟨rfl, hww⟩
  subst hww
  obtain ⟨LF, hlf⟩ : ∃ LF, A.hasZ l = LF := ⟨_, rfl⟩
  obtain ⟨E, hle'⟩ : ∃ E, A.loadE l = E := ⟨_, rfl⟩
  rw [hle'] at hle
  have hE1 : (E != 0) = true := by simpa using hle
  clear hle
  have hle := hle'
  clear hle'
  go_upto_region 9 with fail
  have O4 := hide ((unhide O1).drew (unhide T0))
  have SC : Hid (∀ (w' : World) (G' : Nat → Prop), YHas W z y f g St S K A w' G' → w'.cell? ⟨y, 0, none⟩ = some (.pointer (some ⟨z, 0, none⟩)) ∧ w'.cell? ⟨y, 2 + i * 3 + 2, none⟩ = some (.int .i64 l)) := fun w' G' hO => ⟨hO.rep.c0, unhide CLc _ hO.rep⟩
  refine wp_region_noPanic ?_
  refine wp_region_held_drew (S := fun w' => w'.cell? ⟨y, 0, none⟩ = some (.pointer (some ⟨z, 0, none⟩)) ∧ w'.cell? ⟨y, 2 + i * 3 + 2, none⟩ = some (.int .i64 l)) (by kernel_rfl) (unhide SC _ _ (unhide O4).st) (fun hHeld => ?_)
  clear O1 c1
  generalize w2.drew = wd at *
  refine take_at 0 58 (v := ?_) rfl rfl (by kernel_rfl) (by kernel_rfl) (by kernel_rfl) (Or.inl ⟨by rfl, ?_⟩) hHeld ?_
  rotate_left
  · intro w hSw; go_simp; with_reducible rfl
  simp only [Act.put, List.setIfInBounds_toArray, List.set_cons_zero, List.set_cons_succ]
  refine take_at 1 59 (v := ?_) rfl rfl (by kernel_rfl) (by kernel_rfl) (by kernel_rfl) (Or.inl ⟨by rfl, ?_⟩) hHeld ?_
  rotate_left
  · intro w hSw; go_simp; with_reducible rfl
  simp only [Act.put, List.setIfInBounds_toArray, List.set_cons_zero, List.set_cons_succ]
  refine take_at 2 60 (v := ?_) rfl rfl (by kernel_rfl) (by kernel_rfl) (by kernel_rfl) (Or.inl ⟨by rfl, ?_⟩) hHeld ?_
  rotate_left
  · intro w hSw; go_simp; with_reducible rfl
  simp only [Act.put, List.setIfInBounds_toArray, List.set_cons_zero, List.set_cons_succ]
  refine take_at 3 61 (v := ?_) rfl rfl (by kernel_rfl) (by kernel_rfl) (by kernel_rfl) (Or.inl ⟨by rfl, ?_⟩) hHeld ?_
  rotate_left
  · intro w hSw; obtain ⟨s1, s2⟩ := hSw; go_simp; with_reducible rfl
  simp only [Act.put, List.setIfInBounds_toArray, List.set_cons_zero, List.set_cons_succ]
  refine take_at 4 62 (v := ?_) rfl rfl (by kernel_rfl) (by kernel_rfl) (by kernel_rfl) (Or.inl ⟨by rfl, ?_⟩) hHeld ?_
  rotate_left
  · intro w hSw; go_simp; with_reducible rfl
  simp only [Act.put, List.setIfInBounds_toArray, List.set_cons_zero, List.set_cons_succ]
  refine take_at 5 63 (v := ?_) rfl rfl (by kernel_rfl) (by kernel_rfl) (by kernel_rfl) (Or.inl ⟨by rfl, ?_⟩) hHeld ?_
  rotate_left
  · intro w hSw; go_simp; with_reducible rfl
  simp only [Act.put, List.setIfInBounds_toArray, List.set_cons_zero, List.set_cons_succ]
  refine take_at 6 64 (v := ?_) rfl rfl (by kernel_rfl) (by kernel_rfl) (by kernel_rfl) (Or.inl ⟨by rfl, ?_⟩) hHeld ?_
  rotate_left
  · intro w hSw; go_simp; with_reducible rfl
  simp only [Act.put, List.setIfInBounds_toArray, List.set_cons_zero, List.set_cons_succ]
  refine take_at 7 65 (v := ?_) rfl rfl (by kernel_rfl) (by kernel_rfl) (by kernel_rfl) (Or.inl ⟨by rfl, ?_⟩) hHeld ?_
  rotate_left
  · intro w hSw; go_simp; with_reducible rfl
  simp only [Act.put, List.setIfInBounds_toArray, List.set_cons_zero, List.set_cons_succ]
  refine take_at 8 66 (v := ?_) rfl rfl (by kernel_rfl) (by kernel_rfl) (by kernel_rfl) (Or.inl ⟨by rfl, ?_⟩) hHeld ?_
  rotate_left
  · intro w hSw; go_simp; with_reducible rfl
  simp only [Act.put, List.setIfInBounds_toArray, List.set_cons_zero, List.set_cons_succ]
  refine take_at 9 67 (v := ?_) rfl rfl (by kernel_rfl) (by kernel_rfl) (by kernel_rfl) (Or.inl ⟨by rfl, ?_⟩) hHeld ?_
  rotate_left
  · intro w hSw; go_simp; with_reducible rfl
  simp only [Act.put, List.setIfInBounds_toArray, List.set_cons_zero, List.set_cons_succ]
  refine take_at 10 68 (v := ?_) rfl rfl (by kernel_rfl) (by kernel_rfl) (by kernel_rfl) (Or.inl ⟨by rfl, ?_⟩) hHeld ?_
  rotate_left
  · intro w hSw; obtain ⟨s1, s2⟩ := hSw; go_simp; with_reducible rfl
  simp only [Act.put, List.setIfInBounds_toArray, List.set_cons_zero, List.set_cons_succ]
  refine wpAnyH_ready (rs := [11, 15]) (by kernel_rfl) (by simp) ?_
  refine AllReadyH.cons rfl (fun K2 hK => ?_) (AllReadyH.cons rfl (fun K2 hK => ?_) AllReadyH.nil)
  · go_simp
    refine ((unhide O4).st.load M (unhide hok1) l).mono ?_
    rintro e w3 ⟨rfl, h1, h2⟩
    have OX := hide ((unhide O4).call (St' := YHas W z y f g St S K A) h1 h2)
    rw [hle, hlf]
    go_wp2_with fail
    clear hHeld
    refine hK.out _ _ (unhide SC _ _ (unhide OX).st) (fun hNew => ?_)
    have hHeld := hNew
    clear hK K2 hNew
    clear h1 h2 O4
    refine take_at 12 57 (v := ?_) rfl rfl (by kernel_rfl) (by kernel_rfl) (by kernel_rfl) (Or.inl ⟨by rfl, ?_⟩) hHeld ?_
    rotate_left
    · intro w hSw; go_simp; with_reducible rfl
    simp only [Act.put, List.setIfInBounds_toArray, List.set_cons_zero, List.set_cons_succ]
    refine take_at 13 70 (v := ?_) rfl rfl (by kernel_rfl) (by kernel_rfl) (by kernel_rfl) (Or.inl ⟨by rfl, ?_⟩) hHeld ?_
    rotate_left
    · intro w hSw; go_simp; with_reducible rfl
    simp only [Act.put, List.setIfInBounds_toArray, List.set_cons_zero, List.set_cons_succ]
    refine take_at 14 71 (v := ?_) rfl rfl (by kernel_rfl) (by kernel_rfl) (by kernel_rfl) (Or.inl ⟨by rfl, ?_⟩) hHeld ?_
    rotate_left
    · intro w hSw; go_simp; with_reducible rfl
    simp only [Act.put, List.setIfInBounds_toArray, List.set_cons_zero, List.set_cons_succ]
    refine wpAnyH_ready (rs := [15]) (by kernel_rfl) (by simp) ?_
    refine AllReadyH.cons rfl (fun K2 hK => ?_) AllReadyH.nil
    have OY := hide ((unhide OX).alloc (unhide T0) (.cells #[.int .u64 0, .int .u64 0, .int .u64 0, .int .u64 0, .int .u64 0, .int .u64 0, .int .u64 0, .int .u64 0] 83))
    have HNE := hide (unhide OX).fresh
    go_wp2_with fail
    clear OX
    obtain ⟨g8, hg8⟩ : ∃ g8, g8 = w3.heap.size := ⟨_, rfl⟩
    rw [← hg8] at OY HNE ⊢
    have OX := OY
    generalize w3.alloc _ = w4 at *
    clear hHeld
    refine hK.out _ _ (unhide SC _ _ (unhide OX).st) (fun hNew => ?_)
    have hHeld := hNew
    clear hK K2 hNew
    clear OX hg8
    refine wpAnyH_ready (rs := [16]) (by kernel_rfl) (by simp) ?_
    refine AllReadyH.cons rfl (fun K2 hK => ?_) AllReadyH.nil
    have KG := (unhide OY).at g8 (.cells #[.int .u64 0, .int .u64 0, .int .u64 0, .int .u64 0, .int .u64 0, .int .u64 0, .int .u64 0, .int .u64 0] 83) (by simp)
    refine (if_pos (by rfl)).mpr ?_
    refine wp_store_row 83 (.tmp 9) (.tmp 70) rfl g8 (lnV LF) rfl rfl _ _ KG (s8_ln LF) (by rw [lnV_size]; rfl) (lnV_one _) ?_
    have OX := hide ((unhide OY).rowHd (unhide T0) (unhide HNE) (lnV LF))
    clear hHeld
    refine hK.out _ _ (unhide SC _ _ (unhide OX).st) (fun hNew => ?_)
    have hHeld := hNew
    clear hK K2 hNew
    clear KG OY
    refine take_at 17 10 (v := ?_) rfl rfl (by kernel_rfl) (by kernel_rfl) (by kernel_rfl) (Or.inl ⟨by rfl, ?_⟩) hHeld ?_
    rotate_left
    · intro w hSw; go_simp; with_reducible rfl
    simp only [Act.put, List.setIfInBounds_toArray, List.set_cons_zero, List.set_cons_succ]
    refine wpAnyH_done (by kernel_rfl) ?_ _
    refine NoPanic.normal ?_
    clear hHeld
    go_wp2_with fail
    go_ret
    rw [hle]
    exact (unhide OX).done (unhide T0) _
  · have OY := hide ((unhide O4).alloc (unhide T0) (.cells #[.int .u64 0, .int .u64 0, .int .u64 0, .int .u64 0, .int .u64 0, .int .u64 0, .int .u64 0, .int .u64 0] 83))
    have HNE := hide (unhide O4).fresh
    go_wp2_with fail
    clear O4
    obtain ⟨g8, hg8⟩ : ∃ g8, g8 = wd.heap.size := ⟨_, rfl⟩
    rw [← hg8] at OY HNE ⊢
    have OX := OY
    generalize wd.alloc _ = w4 at *
    clear hHeld
    refine hK.out _ _ (unhide SC _ _ (unhide OX).st) (fun hNew => ?_)
    have hHeld := hNew
    clear hK K2 hNew
    clear OX hg8
    refine wpAnyH_ready (rs := [11]) (by kernel_rfl) (by simp) ?_
    refine AllReadyH.cons rfl (fun K2 hK => ?_) AllReadyH.nil
    go_simp
    refine ((unhide OY).st.load M (unhide hok1) l).mono ?_
    rintro e w3 ⟨rfl, h1, h2⟩
    have OX := hide ((unhide OY).call (St' := YHas W z y f g St S K A) h1 h2)
    rw [hle, hlf]
    go_wp2_with fail
    clear hHeld
    refine hK.out _ _ (unhide SC _ _ (unhide OX).st) (fun hNew => ?_)
    have hHeld := hNew
    clear hK K2 hNew
    clear h1 h2 OY
    have OY := OX
    clear OX
    refine take_at 12 57 (v := ?_) rfl rfl (by kernel_rfl) (by kernel_rfl) (by kernel_rfl) (Or.inl ⟨by rfl, ?_⟩) hHeld ?_
    rotate_left
    · intro w hSw; go_simp; with_reducible rfl
    simp only [Act.put, List.setIfInBounds_toArray, List.set_cons_zero, List.set_cons_succ]
    refine take_at 13 70 (v := ?_) rfl rfl (by kernel_rfl) (by kernel_rfl) (by kernel_rfl) (Or.inl ⟨by rfl, ?_⟩) hHeld ?_
    rotate_left
    · intro w hSw; go_simp; with_reducible rfl
    simp only [Act.put, List.setIfInBounds_toArray, List.set_cons_zero, List.set_cons_succ]
    refine take_at 14 71 (v := ?_) rfl rfl (by kernel_rfl) (by kernel_rfl) (by kernel_rfl) (Or.inl ⟨by rfl, ?_⟩) hHeld ?_
    rotate_left
    · intro w hSw; go_simp; with_reducible rfl
    simp only [Act.put, List.setIfInBounds_toArray, List.set_cons_zero, List.set_cons_succ]
    refine wpAnyH_ready (rs := [16]) (by kernel_rfl) (by simp) ?_
    refine AllReadyH.cons rfl (fun K2 hK => ?_) AllReadyH.nil
    have KG := (unhide OY).at g8 (.cells #[.int .u64 0, .int .u64 0, .int .u64 0, .int .u64 0, .int .u64 0, .int .u64 0, .int .u64 0, .int .u64 0] 83) (by simp)
    refine (if_pos (by rfl)).mpr ?_
    refine wp_store_row 83 (.tmp 9) (.tmp 70) rfl g8 (lnV LF) rfl rfl _ _ KG (s8_ln LF) (by rw [lnV_size]; rfl) (lnV_one _) ?_
    have OX := hide ((unhide OY).rowHd (unhide T0) (unhide HNE) (lnV LF))
    clear hHeld
    refine hK.out _ _ (unhide SC _ _ (unhide OX).st) (fun hNew => ?_)
    have hHeld := hNew
    clear hK K2 hNew
    clear KG OY
    refine take_at 17 10 (v := ?_) rfl rfl (by kernel_rfl) (by kernel_rfl) (by kernel_rfl) (Or.inl ⟨by rfl, ?_⟩) hHeld ?_
    rotate_left
    · intro w hSw; go_simp; with_reducible rfl
    simp only [Act.put, List.setIfInBounds_toArray, List.set_cons_zero, List.set_cons_succ]
    refine wpAnyH_done (by kernel_rfl) ?_ _
    refine NoPanic.normal ?_
    clear hHeld
    go_wp2_with fail
    go_ret
    rw [hle]
    exact (unhide OX).done (unhide T0) _

set_option maxHeartbeats 4000000 in
/-- A copy of its line is laid into a frame. -/
theorem yset_copy {W w : World} {z y f g : Nat} {St : Mm → World → (Nat → Prop) → Prop} {S : Sto} {K : Nat → En} {A : Mm} {G : Nat → Prop} (M : MemR W z St) (h : YHas W z y f g St S K A w G) (hm : Mks S K) (hS : S.ok) (hA : A.ok 800) (x q v : Int) (hv : InU v) (hq : is8 q) (hf : S.findE x = 0) (ho : S.own (S.line x) = false) (hl : S.F.left ≠ 0) (hle : A.loadE (S.line x) = 0) :
    Calls Tryz.prog 20 #[.pointer (some ⟨y, 0, none⟩), .int .i64 x, .int .i64 q, .int .u64 v] w
      (Done (YHas W z y f g St (S.laid A (S.copy A x q v) x.toNat) K (S.layM A (S.copy A x q v))) w G (.int .i64 (S.layE A (S.copy A x q v)))) := by
  have hIN := hide (copy_inU hA S x q v hv)
  have T0 := hide (YHas.stay M y f g S K A)
  have O0 := hide (Held.start (unhide T0) h)
  have hz := findE_ok hf
  obtain ⟨i, rfl⟩ : ∃ i : Nat, x = (i : Int) := ⟨x.toNat, by omega⟩
  have hi : i < 49 := by omega
  have hi1 : (i : Int) < 49 := by omega
  have eL : S.line (i : Int) = (S.w i).l := by unfold Sto.line; rw [Int.toNat_natCast]
  have hkk := hz.2.2
  rw [Int.toNat_natCast] at hkk
  have CO := hide (yown_any h.rep hm i hi)
  have ck := h.rep.ck i hi
  have CLc := hide (fun w' (h' : YRep z f S K w' y) => h'.cl i hi)
  have hk1 : ((S.w i).k == 0) = false := by simpa using hkk
  obtain ⟨hq0, hq8⟩ := hq
  have hq7 : ¬ ((7 : Int) < q) := by omega
  obtain ⟨Q, rfl⟩ : ∃ Q : Nat, q = (Q : Int) := ⟨q.toNat, by omega⟩
  have hQ : Q < 8 := by omega
  have eC : S.copy A (i : Int) (Q : Int) v = upd (A.hasZ (S.w i).l) Q v := by unfold Sto.copy; rw [eL, Int.toNat_natCast]
  rw [eC] at hIN ⊢
  rw [eL] at ho hle
  rw [Int.toNat_natCast]
  have hok := hide (ok_mono hA (show 800 ≤ 900 by decide))
  have hok1 := hide (ok_mono hA (show 800 ≤ 1000 by decide))
  have CL := hide (fun (w' : World) (h' : RFRep w' f g S.F) => rfleft_any h' hS.1)
  obtain ⟨n, hnl⟩ : ∃ n, n = S.F.left := ⟨_, rfl⟩
  have hn0 : ((n : Int) == 0) = false := by simp; omega
  rw [← hnl] at CL
  clear h hf hz eL hl hnl eC hA hkk hm
  obtain ⟨l, hll⟩ : ∃ l, (S.w i).l = l := ⟨_, rfl⟩
  rw [hll] at ho hle CLc CO
  rw [hll] at hIN
  rw [hll]
  obtain ⟨LF, hlf⟩ : ∃ LF, A.hasZ l = LF := ⟨_, rfl⟩
  rw [hlf] at hIN ⊢
  obtain ⟨k, hkw⟩ : ∃ k, (S.w i).k = k := ⟨_, rfl⟩
  rw [hkw] at ck hk1
  clear hll hkw
  go_enter Tryz.func20, Tryz.ntmps20
  go_wp2_with fail
  refine (unhide CO).mono ?_
  rintro e w1 ⟨rfl, hkp⟩
  have O1 := hide ((unhide O0).keeps (unhide T0) hkp)
  rw [ho]
  clear hkp CO O0 ck
  have c1 := (unhide O1).st.rep.c1
  go_wp2_with fail
  refine (unhide CL _ (unhide O1).st.fr).mono ?_
  rintro e w2 ⟨rfl, hww⟩
  subst hww
  go_upto_region 9 with fail
  have O4 := hide ((unhide O1).drew (unhide T0))
  have SC : Hid (∀ (w' : World) (G' : Nat → Prop), YHas W z y f g St S K A w' G' → w'.cell? ⟨y, 0, none⟩ = some (.pointer (some ⟨z, 0, none⟩)) ∧ w'.cell? ⟨y, 2 + i * 3 + 2, none⟩ = some (.int .i64 l)) := fun w' G' hO => ⟨hO.rep.c0, unhide CLc _ hO.rep⟩
  refine wp_region_noPanic ?_
  refine wp_region_held_drew (S := fun w' => w'.cell? ⟨y, 0, none⟩ = some (.pointer (some ⟨z, 0, none⟩)) ∧ w'.cell? ⟨y, 2 + i * 3 + 2, none⟩ = some (.int .i64 l)) (by kernel_rfl) (unhide SC _ _ (unhide O4).st) (fun hHeld => ?_)
  clear O1 c1
  generalize w2.drew = wd at *
  refine take_at 0 58 (v := ?_) rfl rfl (by kernel_rfl) (by kernel_rfl) (by kernel_rfl) (Or.inl ⟨by rfl, ?_⟩) hHeld ?_
  rotate_left
  · intro w hSw; go_simp; with_reducible rfl
  simp only [Act.put, List.setIfInBounds_toArray, List.set_cons_zero, List.set_cons_succ]
  refine take_at 1 59 (v := ?_) rfl rfl (by kernel_rfl) (by kernel_rfl) (by kernel_rfl) (Or.inl ⟨by rfl, ?_⟩) hHeld ?_
  rotate_left
  · intro w hSw; go_simp; with_reducible rfl
  simp only [Act.put, List.setIfInBounds_toArray, List.set_cons_zero, List.set_cons_succ]
  refine take_at 2 60 (v := ?_) rfl rfl (by kernel_rfl) (by kernel_rfl) (by kernel_rfl) (Or.inl ⟨by rfl, ?_⟩) hHeld ?_
  rotate_left
  · intro w hSw; go_simp; with_reducible rfl
  simp only [Act.put, List.setIfInBounds_toArray, List.set_cons_zero, List.set_cons_succ]
  refine take_at 3 61 (v := ?_) rfl rfl (by kernel_rfl) (by kernel_rfl) (by kernel_rfl) (Or.inl ⟨by rfl, ?_⟩) hHeld ?_
  rotate_left
  · intro w hSw; obtain ⟨s1, s2⟩ := hSw; go_simp; with_reducible rfl
  simp only [Act.put, List.setIfInBounds_toArray, List.set_cons_zero, List.set_cons_succ]
  refine take_at 4 62 (v := ?_) rfl rfl (by kernel_rfl) (by kernel_rfl) (by kernel_rfl) (Or.inl ⟨by rfl, ?_⟩) hHeld ?_
  rotate_left
  · intro w hSw; go_simp; with_reducible rfl
  simp only [Act.put, List.setIfInBounds_toArray, List.set_cons_zero, List.set_cons_succ]
  refine take_at 5 63 (v := ?_) rfl rfl (by kernel_rfl) (by kernel_rfl) (by kernel_rfl) (Or.inl ⟨by rfl, ?_⟩) hHeld ?_
  rotate_left
  · intro w hSw; go_simp; with_reducible rfl
  simp only [Act.put, List.setIfInBounds_toArray, List.set_cons_zero, List.set_cons_succ]
  refine take_at 6 64 (v := ?_) rfl rfl (by kernel_rfl) (by kernel_rfl) (by kernel_rfl) (Or.inl ⟨by rfl, ?_⟩) hHeld ?_
  rotate_left
  · intro w hSw; go_simp; with_reducible rfl
  simp only [Act.put, List.setIfInBounds_toArray, List.set_cons_zero, List.set_cons_succ]
  refine take_at 7 65 (v := ?_) rfl rfl (by kernel_rfl) (by kernel_rfl) (by kernel_rfl) (Or.inl ⟨by rfl, ?_⟩) hHeld ?_
  rotate_left
  · intro w hSw; go_simp; with_reducible rfl
  simp only [Act.put, List.setIfInBounds_toArray, List.set_cons_zero, List.set_cons_succ]
  refine take_at 8 66 (v := ?_) rfl rfl (by kernel_rfl) (by kernel_rfl) (by kernel_rfl) (Or.inl ⟨by rfl, ?_⟩) hHeld ?_
  rotate_left
  · intro w hSw; go_simp; with_reducible rfl
  simp only [Act.put, List.setIfInBounds_toArray, List.set_cons_zero, List.set_cons_succ]
  refine take_at 9 67 (v := ?_) rfl rfl (by kernel_rfl) (by kernel_rfl) (by kernel_rfl) (Or.inl ⟨by rfl, ?_⟩) hHeld ?_
  rotate_left
  · intro w hSw; go_simp; with_reducible rfl
  simp only [Act.put, List.setIfInBounds_toArray, List.set_cons_zero, List.set_cons_succ]
  refine take_at 10 68 (v := ?_) rfl rfl (by kernel_rfl) (by kernel_rfl) (by kernel_rfl) (Or.inl ⟨by rfl, ?_⟩) hHeld ?_
  rotate_left
  · intro w hSw; obtain ⟨s1, s2⟩ := hSw; go_simp; with_reducible rfl
  simp only [Act.put, List.setIfInBounds_toArray, List.set_cons_zero, List.set_cons_succ]
  refine wpAnyH_ready (rs := [11, 15]) (by kernel_rfl) (by simp) ?_
  refine AllReadyH.cons rfl (fun K2 hK => ?_) (AllReadyH.cons rfl (fun K2 hK => ?_) AllReadyH.nil)
  · go_simp
    refine ((unhide O4).st.load M (unhide hok1) l).mono ?_
    rintro e w3 ⟨rfl, h1, h2⟩
    have OX := hide ((unhide O4).call (St' := YHas W z y f g St S K A) h1 h2)
    rw [hle, hlf]
    go_wp2_with fail
    clear hHeld
    refine hK.out _ _ (unhide SC _ _ (unhide OX).st) (fun hNew => ?_)
    have hHeld := hNew
    clear hK K2 hNew
    clear h1 h2 O4
    refine take_at 12 57 (v := ?_) rfl rfl (by kernel_rfl) (by kernel_rfl) (by kernel_rfl) (Or.inl ⟨by rfl, ?_⟩) hHeld ?_
    rotate_left
    · intro w hSw; go_simp; with_reducible rfl
    simp only [Act.put, List.setIfInBounds_toArray, List.set_cons_zero, List.set_cons_succ]
    refine take_at 13 70 (v := ?_) rfl rfl (by kernel_rfl) (by kernel_rfl) (by kernel_rfl) (Or.inl ⟨by rfl, ?_⟩) hHeld ?_
    rotate_left
    · intro w hSw; go_simp; with_reducible rfl
    simp only [Act.put, List.setIfInBounds_toArray, List.set_cons_zero, List.set_cons_succ]
    refine take_at 14 71 (v := ?_) rfl rfl (by kernel_rfl) (by kernel_rfl) (by kernel_rfl) (Or.inl ⟨by rfl, ?_⟩) hHeld ?_
    rotate_left
    · intro w hSw; go_simp; with_reducible rfl
    simp only [Act.put, List.setIfInBounds_toArray, List.set_cons_zero, List.set_cons_succ]
    refine wpAnyH_ready (rs := [15]) (by kernel_rfl) (by simp) ?_
    refine AllReadyH.cons rfl (fun K2 hK => ?_) AllReadyH.nil
    have OY := hide ((unhide OX).alloc (unhide T0) (.cells #[.int .u64 0, .int .u64 0, .int .u64 0, .int .u64 0, .int .u64 0, .int .u64 0, .int .u64 0, .int .u64 0] 83))
    have HNE := hide (unhide OX).fresh
    go_wp2_with fail
    clear OX
    obtain ⟨g8, hg8⟩ : ∃ g8, g8 = w3.heap.size := ⟨_, rfl⟩
    rw [← hg8] at OY HNE ⊢
    have OX := OY
    generalize w3.alloc _ = w4 at *
    clear hHeld
    refine hK.out _ _ (unhide SC _ _ (unhide OX).st) (fun hNew => ?_)
    have hHeld := hNew
    clear hK K2 hNew
    clear OX hg8
    refine wpAnyH_ready (rs := [16]) (by kernel_rfl) (by simp) ?_
    refine AllReadyH.cons rfl (fun K2 hK => ?_) AllReadyH.nil
    have KG := (unhide OY).at g8 (.cells #[.int .u64 0, .int .u64 0, .int .u64 0, .int .u64 0, .int .u64 0, .int .u64 0, .int .u64 0, .int .u64 0] 83) (by simp)
    refine (if_pos (by rfl)).mpr ?_
    refine wp_store_row 83 (.tmp 9) (.tmp 70) rfl g8 (lnV LF) rfl rfl _ _ KG (s8_ln LF) (by rw [lnV_size]; rfl) (lnV_one _) ?_
    have OX := hide ((unhide OY).rowHd (unhide T0) (unhide HNE) (lnV LF))
    clear hHeld
    refine hK.out _ _ (unhide SC _ _ (unhide OX).st) (fun hNew => ?_)
    have hHeld := hNew
    clear hK K2 hNew
    clear KG OY
    refine take_at 17 10 (v := ?_) rfl rfl (by kernel_rfl) (by kernel_rfl) (by kernel_rfl) (Or.inl ⟨by rfl, ?_⟩) hHeld ?_
    rotate_left
    · intro w hSw; go_simp; with_reducible rfl
    simp only [Act.put, List.setIfInBounds_toArray, List.set_cons_zero, List.set_cons_succ]
    refine wpAnyH_done (by kernel_rfl) ?_ _
    refine NoPanic.normal ?_
    clear hHeld
    generalize World.setRow _ g8 (lnV LF) = w5 at *
    have cq : w5.cell? ⟨g8, Q, none⟩ = some (.int .u64 (LF Q)) := by rw [cell_of_block ((unhide OX).at g8 (.cells (lnV LF) 83) (by simp))]; exact lnV_get LF Q hQ
    have fq : w5.frozen? ⟨g8, Q, none⟩ = false := unfrozen_of_block ((unhide OX).at g8 (.cells (lnV LF) 83) (by simp)) _
    have OZ := hide ((unhide OX).cellHd (unhide T0) (unhide HNE) Q (.int .u64 v))
    rw [lnV_set] at OZ
    clear OX
    go_upto_region 13 with fail
    clear cq fq
    generalize w5.setCell _ _ = w6 at *
    have KL := hide ((unhide OZ).at g8 (.cells (lnV (upd LF Q v)) 83) (by simp))
    have s8 := s8_ln (upd LF Q v)
    have CY := hide (ylay_any M (unhide OZ).st hS (unhide hok) (upd LF Q v) (unhide hIN))
    generalize upd LF Q v = LC at *
    obtain ⟨LV, hLV⟩ : ∃ LV, LV = lnV LC := ⟨_, rfl⟩
    rw [← hLV] at KL s8 CY OZ
    clear hLV
    go_wp2_with (with_reducible refine wpList_load_row (by with_unfolding_all rfl) 83 _ (by with_unfolding_all rfl) g8 (by with_unfolding_all rfl) _ _ _ _ (unhide KL) Tryz.underlying83 (by with_unfolding_all rfl) s8 ?_)
    refine (unhide CY).mono ?_
    rintro e w7 ⟨rfl, h1, h2⟩
    have OV := hide ((unhide OZ).call (St' := YHas W z y f g St S.took K (S.layM A LC)) h1 h2)
    clear h1 h2 OZ KL CY s8
    have TV := hide (YHas.stay M y f g S.took K (S.layM A LC))
    by_cases hE : S.layE A LC = 0
    · have hV : S.layV A LC = S.F.allocV := by unfold Sto.layV; rw [if_pos hE]
      have HP : Hid (S.laid A LC i = S.took.withW i (moved (S.w i) S.F.allocV)) := if_pos hE
      have HE0 := hide hE
      rw [hE, hV]
      have OT := hide (Held.turn (St' := YHas W z y f g St (S.took.withW i (moved (S.w i) S.F.allocV)) K (S.layM A LC)) (w' := w7.setCell ⟨y, 2 + i * 3 + 2, none⟩ (.int .i64 S.F.allocV)) (unhide OV) ((unhide OV).st.line M i hi S.F.allocV))
      have cl : (w7.cell? ⟨y, 2 + i * 3 + 2, none⟩).isSome = true := by rw [Blk.cell (unhide OV).st.rep _ (by omega)]; rfl
      have fl : w7.frozen? ⟨y, 2 + i * 3 + 2, none⟩ = false := Blk.free (unhide OV).st.rep _
      obtain ⟨cv, hcl⟩ := Option.isSome_iff_exists.1 cl
      clear OV hE cl hV
      generalize S.F.allocV = V at *
      go_wp2_with fail
      go_ret
      rw [unhide HP, unhide HE0]
      exact (unhide OT).done (YHas.stay M y f g _ _ _) _
    · have HP : Hid (S.laid A LC i = S.took) := if_neg hE
      have hEb : (S.layE A LC == 0) = false := by simpa using hE
      clear hE
      obtain ⟨EL, hEL⟩ : ∃ EL, EL = S.layE A LC := ⟨_, rfl⟩
      have HEL := hide hEL
      rw [← hEL] at hEb ⊢
      clear hEL
      generalize S.layV A LC = V at *
      go_wp2_with fail
      go_ret
      rw [unhide HP, ← unhide HEL]
      exact (unhide OV).done (unhide TV) _
  · have OY := hide ((unhide O4).alloc (unhide T0) (.cells #[.int .u64 0, .int .u64 0, .int .u64 0, .int .u64 0, .int .u64 0, .int .u64 0, .int .u64 0, .int .u64 0] 83))
    have HNE := hide (unhide O4).fresh
    go_wp2_with fail
    clear O4
    obtain ⟨g8, hg8⟩ : ∃ g8, g8 = wd.heap.size := ⟨_, rfl⟩
    rw [← hg8] at OY HNE ⊢
    have OX := OY
    generalize wd.alloc _ = w4 at *
    clear hHeld
    refine hK.out _ _ (unhide SC _ _ (unhide OX).st) (fun hNew => ?_)
    have hHeld := hNew
    clear hK K2 hNew
    clear OX hg8
    refine wpAnyH_ready (rs := [11]) (by kernel_rfl) (by simp) ?_
    refine AllReadyH.cons rfl (fun K2 hK => ?_) AllReadyH.nil
    go_simp
    refine ((unhide OY).st.load M (unhide hok1) l).mono ?_
    rintro e w3 ⟨rfl, h1, h2⟩
    have OX := hide ((unhide OY).call (St' := YHas W z y f g St S K A) h1 h2)
    rw [hle, hlf]
    go_wp2_with fail
    clear hHeld
    refine hK.out _ _ (unhide SC _ _ (unhide OX).st) (fun hNew => ?_)
    have hHeld := hNew
    clear hK K2 hNew
    clear h1 h2 OY
    have OY := OX
    clear OX
    refine take_at 12 57 (v := ?_) rfl rfl (by kernel_rfl) (by kernel_rfl) (by kernel_rfl) (Or.inl ⟨by rfl, ?_⟩) hHeld ?_
    rotate_left
    · intro w hSw; go_simp; with_reducible rfl
    simp only [Act.put, List.setIfInBounds_toArray, List.set_cons_zero, List.set_cons_succ]
    refine take_at 13 70 (v := ?_) rfl rfl (by kernel_rfl) (by kernel_rfl) (by kernel_rfl) (Or.inl ⟨by rfl, ?_⟩) hHeld ?_
    rotate_left
    · intro w hSw; go_simp; with_reducible rfl
    simp only [Act.put, List.setIfInBounds_toArray, List.set_cons_zero, List.set_cons_succ]
    refine take_at 14 71 (v := ?_) rfl rfl (by kernel_rfl) (by kernel_rfl) (by kernel_rfl) (Or.inl ⟨by rfl, ?_⟩) hHeld ?_
    rotate_left
    · intro w hSw; go_simp; with_reducible rfl
    simp only [Act.put, List.setIfInBounds_toArray, List.set_cons_zero, List.set_cons_succ]
    refine wpAnyH_ready (rs := [16]) (by kernel_rfl) (by simp) ?_
    refine AllReadyH.cons rfl (fun K2 hK => ?_) AllReadyH.nil
    have KG := (unhide OY).at g8 (.cells #[.int .u64 0, .int .u64 0, .int .u64 0, .int .u64 0, .int .u64 0, .int .u64 0, .int .u64 0, .int .u64 0] 83) (by simp)
    refine (if_pos (by rfl)).mpr ?_
    refine wp_store_row 83 (.tmp 9) (.tmp 70) rfl g8 (lnV LF) rfl rfl _ _ KG (s8_ln LF) (by rw [lnV_size]; rfl) (lnV_one _) ?_
    have OX := hide ((unhide OY).rowHd (unhide T0) (unhide HNE) (lnV LF))
    clear hHeld
    refine hK.out _ _ (unhide SC _ _ (unhide OX).st) (fun hNew => ?_)
    have hHeld := hNew
    clear hK K2 hNew
    clear KG OY
    refine take_at 17 10 (v := ?_) rfl rfl (by kernel_rfl) (by kernel_rfl) (by kernel_rfl) (Or.inl ⟨by rfl, ?_⟩) hHeld ?_
    rotate_left
    · intro w hSw; go_simp; with_reducible rfl
    simp only [Act.put, List.setIfInBounds_toArray, List.set_cons_zero, List.set_cons_succ]
    refine wpAnyH_done (by kernel_rfl) ?_ _
    refine NoPanic.normal ?_
    clear hHeld
    generalize World.setRow _ g8 (lnV LF) = w5 at *
    have cq : w5.cell? ⟨g8, Q, none⟩ = some (.int .u64 (LF Q)) := by rw [cell_of_block ((unhide OX).at g8 (.cells (lnV LF) 83) (by simp))]; exact lnV_get LF Q hQ
    have fq : w5.frozen? ⟨g8, Q, none⟩ = false := unfrozen_of_block ((unhide OX).at g8 (.cells (lnV LF) 83) (by simp)) _
    have OZ := hide ((unhide OX).cellHd (unhide T0) (unhide HNE) Q (.int .u64 v))
    rw [lnV_set] at OZ
    clear OX
    go_upto_region 13 with fail
    clear cq fq
    generalize w5.setCell _ _ = w6 at *
    have KL := hide ((unhide OZ).at g8 (.cells (lnV (upd LF Q v)) 83) (by simp))
    have s8 := s8_ln (upd LF Q v)
    have CY := hide (ylay_any M (unhide OZ).st hS (unhide hok) (upd LF Q v) (unhide hIN))
    generalize upd LF Q v = LC at *
    obtain ⟨LV, hLV⟩ : ∃ LV, LV = lnV LC := ⟨_, rfl⟩
    rw [← hLV] at KL s8 CY OZ
    clear hLV
    go_wp2_with (with_reducible refine wpList_load_row (by with_unfolding_all rfl) 83 _ (by with_unfolding_all rfl) g8 (by with_unfolding_all rfl) _ _ _ _ (unhide KL) Tryz.underlying83 (by with_unfolding_all rfl) s8 ?_)
    refine (unhide CY).mono ?_
    rintro e w7 ⟨rfl, h1, h2⟩
    have OV := hide ((unhide OZ).call (St' := YHas W z y f g St S.took K (S.layM A LC)) h1 h2)
    clear h1 h2 OZ KL CY s8
    have TV := hide (YHas.stay M y f g S.took K (S.layM A LC))
    by_cases hE : S.layE A LC = 0
    · have hV : S.layV A LC = S.F.allocV := by unfold Sto.layV; rw [if_pos hE]
      have HP : Hid (S.laid A LC i = S.took.withW i (moved (S.w i) S.F.allocV)) := if_pos hE
      have HE0 := hide hE
      rw [hE, hV]
      have OT := hide (Held.turn (St' := YHas W z y f g St (S.took.withW i (moved (S.w i) S.F.allocV)) K (S.layM A LC)) (w' := w7.setCell ⟨y, 2 + i * 3 + 2, none⟩ (.int .i64 S.F.allocV)) (unhide OV) ((unhide OV).st.line M i hi S.F.allocV))
      have cl : (w7.cell? ⟨y, 2 + i * 3 + 2, none⟩).isSome = true := by rw [Blk.cell (unhide OV).st.rep _ (by omega)]; rfl
      have fl : w7.frozen? ⟨y, 2 + i * 3 + 2, none⟩ = false := Blk.free (unhide OV).st.rep _
      obtain ⟨cv, hcl⟩ := Option.isSome_iff_exists.1 cl
      clear OV hE cl hV
      generalize S.F.allocV = V at *
      go_wp2_with fail
      go_ret
      rw [unhide HP, unhide HE0]
      exact (unhide OT).done (YHas.stay M y f g _ _ _) _
    · have HP : Hid (S.laid A LC i = S.took) := if_neg hE
      have hEb : (S.layE A LC == 0) = false := by simpa using hE
      clear hE
      obtain ⟨EL, hEL⟩ : ∃ EL, EL = S.layE A LC := ⟨_, rfl⟩
      have HEL := hide hEL
      rw [← hEL] at hEb ⊢
      clear hEL
      generalize S.layV A LC = V at *
      go_wp2_with fail
      go_ret
      rw [unhide HP, ← unhide HEL]
      exact (unhide OV).done (unhide TV) _

theorem yset_any {W w : World} {z y f g : Nat} {St : Mm → World → (Nat → Prop) → Prop} {S : Sto} {K : Nat → En} {A : Mm} {G : Nat → Prop} (M : MemR W z St) (h : YHas W z y f g St S K A w G) (hm : Mks S K) (hS : S.ok) (hA : A.ok 800) (x q v : Int) (hv : InU v) :
    Calls Tryz.prog 20 #[.pointer (some ⟨y, 0, none⟩), .int .i64 x, .int .i64 q, .int .u64 v] w (Done (YHas W z y f g St (S.setS A x q v) K (S.setM A x q v)) w G (.int .i64 (S.setE A x q v))) := by
  by_cases h1 : is8 q ∧ S.findE x = 0
  · have e1 : S.setE A x q v = if S.own (S.line x) = true then A.storeE (S.line x) q else if S.F.left = 0 then 10 else if A.loadE (S.line x) = 0 then S.layE A (S.copy A x q v) else A.loadE (S.line x) := by
      unfold Sto.setE; rw [if_pos h1.1, if_pos h1.2]
    have e2 : S.setS A x q v = if S.own (S.line x) = true then S else if S.F.left ≠ 0 ∧ A.loadE (S.line x) = 0 then S.laid A (S.copy A x q v) x.toNat else S := by
      unfold Sto.setS; rw [if_pos h1]; rfl
    have e3 : S.setM A x q v = if S.own (S.line x) = true then A.storeZ (S.line x) q v else if S.F.left ≠ 0 ∧ A.loadE (S.line x) = 0 then S.layM A (S.copy A x q v) else A := by
      unfold Sto.setM; rw [if_pos h1]
    rcases Bool.eq_false_or_eq_true (S.own (S.line x)) with ho | ho
    · rw [if_pos ho] at e1 e2 e3
      rw [e1, e2, e3]
      exact yset_own M h hm hA x q v h1.1 h1.2 ho
    · have hn : ¬ S.own (S.line x) = true := by simp [ho]
      rw [if_neg hn] at e1 e2 e3
      by_cases hl : S.F.left = 0
      · rw [if_pos hl] at e1
        rw [if_neg (fun c => c.1 hl)] at e2 e3
        rw [e1, e2, e3]
        exact yset_full M h hm hS x q v h1.1 h1.2 ho hl
      · rw [if_neg hl] at e1
        by_cases hle : A.loadE (S.line x) = 0
        · rw [if_pos hle] at e1
          rw [if_pos ⟨hl, hle⟩] at e2 e3
          rw [e1, e2, e3]
          exact yset_copy M h hm hS hA x q v hv h1.1 h1.2 ho hl hle
        · rw [if_neg hle] at e1
          rw [if_neg (fun c => hle c.2)] at e2 e3
          rw [e1, e2, e3]
          exact yset_dark M h hm hS hA x q v h1.1 h1.2 ho hl hle
  · unfold Sto.setS Sto.setM
    rw [if_neg h1, if_neg h1]
    exact yset_none h x q v h1

end Go.Proofs.YtinhnnnehhlceaaGreat
