
/-
  The document's Make and End.
-/
import Derived.Test.YtinhnnnehhlceaaGreatYLay
import Derived.Test.YtinhnnnehhlceaaGreatYMark
import Derived.Test.YtinhnnnehhlceaaGreatPkCh
namespace Go.Proofs.YtinhnnnehhlceaaGreat
open Go.ChangeShapes Go.WideShapes Go.ChangeAt Go.RowKit Go.Joins
set_option maxRecDepth 10000
set_option linter.unusedVariables false
set_option linter.unusedSimpArgs false

theorem YHas.put {W w : World} {z y f g : Nat} {St : Mm → World → (Nat → Prop) → Prop} {S : Sto} {K : Nat → En} {A : Mm} {G : Nat → Prop} (M : MemR W z St) (h : YHas W z y f g St S K A w G) (i : Nat) (hi : i < 49) (x : En) :
    YHas W z y f g St (S.withW i x) K A (w.setCells y (2 + i * 3) (ev x).toList) G ∧ Same G w (w.setCells y (2 + i * 3) (ev x).toList) :=
  h.turned M (YRep.withW h.rep i hi x) rfl (keeps_put3 _ _ _ _)
theorem YHas.there3 {W w : World} {z y f g : Nat} {St : Mm → World → (Nat → Prop) → Prop} {S : Sto} {K : Nat → En} {A : Mm} {G : Nat → Prop} (h : YHas W z y f g St S K A w G) (i : Nat) (hi : i < 49) : w.there y (2 + i * 3) 3 := Blk.there h.rep _ _ (by omega)

theorem ymake_none {W w : World} {z y f g : Nat} {St : Mm → World → (Nat → Prop) → Prop} {S : Sto} {K : Nat → En} {A : Mm} {G : Nat → Prop} (M : MemR W z St) (h : YHas W z y f g St S K A w G) (kz : Int) (hz : S.nextE kz ≠ 0) :
    Calls Tryz.prog 22 #[.pointer (some ⟨y, 0, none⟩), .int .i64 kz] w (Done (YHas W z y f g St S K A) w G (.tuple #[.int .i64 0, .int .i64 (S.nextE kz)])) := by
  have T0 := hide (YHas.stay M y f g S K A)
  have O0 := hide (Held.start (unhide T0) h)
  have CF := hide (ynext_any h.rep kz)
  have hzb : (S.nextE kz != 0) = true := by simpa using hz
  clear h hz
  generalize S.nextE kz = E at *
  generalize S.nextI kz = I at *
  generalize S.nextV kz = V at *
  go_enter Tryz.func22, Tryz.ntmps22
  go_wp2_with fail
  refine (unhide CF).mono ?_
  rintro e w1 ⟨rfl, hb⟩
  have O1 := hide ((unhide O0).keeps (unhide T0) hb)
  clear hb CF O0
  go_wp2_with fail
  go_ret2
  exact (unhide O1).done (unhide T0) _

set_option maxHeartbeats 4000000 in
theorem ymake_some {W w : World} {z y f g : Nat} {St : Mm → World → (Nat → Prop) → Prop} {S : Sto} {K : Nat → En} {A : Mm} {G : Nat → Prop} (M : MemR W z St) (h : YHas W z y f g St S K A w G) (hS : S.ok) (hA : A.ok 900) (kz : Int) (hz : S.nextE kz = 0) :
    Calls Tryz.prog 22 #[.pointer (some ⟨y, 0, none⟩), .int .i64 kz] w (Done (YHas W z y f g St (S.makeS A kz) K (S.makeM A kz)) w G (.tuple #[.int .i64 (S.makeI A kz), .int .i64 (S.makeE A kz)])) := by
  have T0 := hide (YHas.stay M y f g S K A)
  have O0 := hide (Held.start (unhide T0) h)
  have CF := hide (ynext_any h.rep kz)
  obtain ⟨k, e1, hk, hop, e2, hnx, hmk⟩ := nextE_ok hz
  rw [e1, hz] at CF
  have EM : Hid (S.makeM A kz = S.layM A zeroL) := if_pos hz
  have EE : Hid (S.makeE A kz = S.layE A zeroL) := if_pos hz
  have EI : Hid (S.layE A zeroL = 0 → S.makeI A kz = k) := fun q => (if_pos (by rw [unhide EE]; exact q)).trans e1
  have EJ : Hid (S.layE A zeroL ≠ 0 → S.makeI A kz = 0) := fun q => if_neg (by rw [unhide EE]; exact q)
  have ES : Hid (S.layE A zeroL = 0 → S.makeS A kz = S.took.withW k ⟨kz, S.nextV kz, S.F.allocV⟩) := fun q => by unfold Sto.makeS; rw [if_pos hz, if_pos q, e1, Int.toNat_natCast]
  have EZ : Hid (S.layE A zeroL ≠ 0 → S.makeS A kz = S.took) := fun q => by unfold Sto.makeS; rw [if_pos hz, if_neg q]
  have CY := hide (fun (w' : World) (L : List (Nat × Obj)) (O : Held W (YHas W z y f g St S K A) w w' G L) => ylay_any M O.st hS hA zeroL zeroL_inU)
  have hk1 : (k : Int) < 49 := by omega
  clear h hz e1 e2 hop hnx hmk hA
  generalize S.nextV kz = V at *
  obtain ⟨ZL, hZL⟩ : ∃ ZL, ZL = lnV zeroL := ⟨_, rfl⟩
  have bz := build_zl
  rw [← hZL] at CY bz
  clear hZL
  have HB := hide bz
  clear bz
  go_enter Tryz.func22, Tryz.ntmps22
  go_wp2_with fail
  refine (unhide CF).mono ?_
  rintro e w1 ⟨rfl, hb⟩
  have O1 := hide ((unhide O0).keeps (unhide T0) hb)
  clear hb CF O0
  go_wp2_with (with_reducible refine wpList_build0 (by with_unfolding_all rfl) 83 (by with_unfolding_all rfl) ZL (unhide HB) ?_)
  refine (unhide CY _ _ (unhide O1)).mono ?_
  rintro e w2 ⟨rfl, h1, h2⟩
  have O2 := hide ((unhide O1).call (St' := YHas W z y f g St S.took K (S.layM A zeroL)) h1 h2)
  clear h1 h2 CY O1
  by_cases hE : S.layE A zeroL = 0
  · have hV : S.layV A zeroL = S.F.allocV := by unfold Sto.layV; rw [if_pos hE]
    have HE0 := hide hE
    rw [hE, hV]
    have ht := hide ((unhide O2).st.there3 k hk)
    have OT := hide (Held.turn (St' := YHas W z y f g St (S.took.withW k ⟨kz, V, S.F.allocV⟩) K (S.layM A zeroL)) (w' := w2.setCells y (2 + k * 3) (ev ⟨kz, V, S.F.allocV⟩).toList) (unhide O2) ((unhide O2).st.put M k hk ⟨kz, V, S.F.allocV⟩))
    have HS := hide (unhide ES hE)
    have HI := hide (unhide EI hE)
    clear hE hV O2 ES EZ EI EJ
    generalize S.F.allocV = X at *
    go_wp2_with (with_reducible refine wpList_store_en (by with_unfolding_all rfl) _ _ (by with_unfolding_all rfl) y (2 + k * 3) ⟨kz, V, X⟩ (by with_unfolding_all rfl) (by with_unfolding_all rfl) (unhide ht) ?_)
    go_ret2
    rw [unhide EM, unhide EE, unhide HS, unhide HI, unhide HE0]
    exact (unhide OT).done (YHas.stay M y f g _ _ _) _
  · have HS := hide (unhide EZ hE)
    have HI := hide (unhide EJ hE)
    have hEb : (S.layE A zeroL != 0) = true := by simpa using hE
    clear hE ES EZ EI EJ
    obtain ⟨EL, hEL⟩ : ∃ EL, EL = S.layE A zeroL := ⟨_, rfl⟩
    have HEL := hide hEL
    rw [← hEL] at hEb ⊢
    clear hEL
    generalize S.layV A zeroL = X at *
    go_wp2_with fail
    go_ret2
    rw [unhide EM, unhide EE, unhide HS, unhide HI, ← unhide HEL]
    exact (unhide O2).done (YHas.stay M y f g _ _ _) _
theorem ymake_any {W w : World} {z y f g : Nat} {St : Mm → World → (Nat → Prop) → Prop} {S : Sto} {K : Nat → En} {A : Mm} {G : Nat → Prop} (M : MemR W z St) (h : YHas W z y f g St S K A w G) (hS : S.ok) (hA : A.ok 900) (kz : Int) :
    Calls Tryz.prog 22 #[.pointer (some ⟨y, 0, none⟩), .int .i64 kz] w (Done (YHas W z y f g St (S.makeS A kz) K (S.makeM A kz)) w G (.tuple #[.int .i64 (S.makeI A kz), .int .i64 (S.makeE A kz)])) := by
  by_cases hz : S.nextE kz = 0
  · exact ymake_some M h hS hA kz hz
  · have e1 : S.makeM A kz = A := if_neg hz
    have e2 : S.makeE A kz = S.nextE kz := if_neg hz
    have e3 : S.makeI A kz = 0 := if_neg (by rw [e2]; exact hz)
    have e4 : S.makeS A kz = S := by unfold Sto.makeS; rw [if_neg hz]
    rw [e1, e2, e3, e4]
    exact ymake_none M h kz hz

theorem yend_none {W w : World} {z y f g : Nat} {St : Mm → World → (Nat → Prop) → Prop} {S : Sto} {K : Nat → En} {A : Mm} {G : Nat → Prop} (h : YHas W z y f g St S K A w G) (x : Int) (hf : S.findE x ≠ 0) :
    Calls Tryz.prog 24 #[.pointer (some ⟨y, 0, none⟩), .int .i64 x] w (Done (YHas W z y f g St S K A) w G (.int .i64 (S.findE x))) := by
  have CI := hide (yis_any h.rep x)
  have hE : (S.findE x != 0) = true := by simpa using hf
  have HH := hide h
  clear h hf
  generalize S.findE x = E at *
  go_enter Tryz.func24, Tryz.ntmps24
  go_wp2_with fail
  refine (unhide CI).mono ?_
  rintro e w1 ⟨rfl, rfl⟩
  go_wp2_with fail
  go_ret
  exact ⟨rfl, unhide HH, fun _ _ => rfl⟩
set_option maxHeartbeats 4000000 in
theorem yend_some {W w : World} {z y f g : Nat} {St : Mm → World → (Nat → Prop) → Prop} {S : Sto} {K : Nat → En} {A : Mm} {G : Nat → Prop} (M : MemR W z St) (h : YHas W z y f g St S K A w G) (hm : Mks S K) (hS : S.ok) (hlin : ∀ i, i < 49 → FIn64 (S.w i).l) (x : Int) (hf : S.findE x = 0) :
    Calls Tryz.prog 24 #[.pointer (some ⟨y, 0, none⟩), .int .i64 x] w (Done (YHas W z y f g St (S.endS x) K A) w G (.int .i64 0)) := by
  have T0 := hide (YHas.stay M y f g S K A)
  have O0 := hide (Held.start (unhide T0) h)
  have hz := findE_ok hf
  obtain ⟨i, rfl⟩ : ∃ i : Nat, x = (i : Int) := ⟨x.toNat, by omega⟩
  have hi : i < 49 := by omega
  have hi1 : (i : Int) < 49 := by omega
  have CI := hide (yis_any h.rep (i : Int))
  rw [hf] at CI
  have CO := hide (yown_any h.rep hm i hi)
  have hl64 := hlin i hi
  obtain ⟨k, v0, l, hx⟩ : ∃ k v0 l, S.w i = ⟨k, v0, l⟩ := ⟨_, _, _, rfl⟩
  have hk : k ≠ 0 := by have := hz.2.2; rw [Int.toNat_natCast, hx] at this; exact this
  have eL : S.line (i : Int) = l := by unfold Sto.line; rw [Int.toNat_natCast, hx]
  have hv := hS.2 i hi
  rw [hx] at hv
  have hv0 : 0 ≤ v0 := hv.1
  have hv1 : v0 ≤ 16777215 := hv.2
  rw [hx] at hl64
  have hl2 : FIn64 l := hl64
  rw [show (S.w i).l = l by rw [hx]] at CO
  obtain ⟨N, hN⟩ : ∃ N, N = Go.Proofs.YtinhnnnehhlceaaGreat.nextI v0 := ⟨_, rfl⟩
  have CE : Hid (∀ w, Calls Tryz.prog 84 #[.agg (ev ⟨k, v0, l⟩)] w fun e w' => e = .returned (.tuple #[.agg #[.int .i64 0, .int .i64 N, .int .i64 0], .int .i64 0]) ∧ Below w.heap.size w w') := fun w => by
    have := reend3 k v0 l (by omega) (by omega) w
    rw [show endV ⟨k, v0, l⟩ = ⟨0, N, 0⟩ by rw [hN]; exact if_neg hk, show endE ⟨k, v0, l⟩ = 0 from if_neg hk] at this
    exact this
  have CR := hide (fun (w' : World) (h' : RFRep w' f g S.F) => rffree_any h' hS.1 l hl2)
  have HE : Hid (endV (S.w i) = ⟨0, N, 0⟩) := by rw [hx, hN]; exact if_neg hk
  have CLc := hide (fun w' (h' : YRep z f S K w' y) => by have := h'.cl i hi; rw [hx] at this; exact this)
  rcases Bool.eq_false_or_eq_true (S.own l) with ho | ho
  · have ES : Hid (S.endS (i : Int) = (S.withF (S.F.turnA l 1 0)).withW i ⟨0, N, 0⟩) := by
      show _ = _
      unfold Sto.endS Sto.endF
      rw [if_pos hf, eL, if_pos ho, Int.toNat_natCast, unhide HE]; rfl
    obtain ⟨SE, hSE⟩ : ∃ SE, SE = S.withF (S.F.turnA l 1 0) := ⟨_, rfl⟩
    have HX : Hid (SE.w i = ⟨k, v0, l⟩) := by show _ = _; rw [hSE]; exact hx
    have HSE := hide hSE
    rw [← hSE] at ES
    clear h hf hz hx eL hv hN HE hSE hlin hl64 hl2 hm
    go_enter Tryz.func24, Tryz.ntmps24
    go_wp2_with fail
    refine (unhide CI).mono ?_
    rintro e w0 ⟨rfl, hw0⟩
    subst hw0
    go_wp2_with fail
    refine (unhide CO).mono ?_
    rintro e w1 ⟨rfl, hkp⟩
    have O1 := hide ((unhide O0).keeps (unhide T0) hkp)
    rw [ho]
    clear hkp CO O0 CI
    go_upto_region 5 with fail
    have SC : Hid (∀ (w' : World), YRep z f S K w' y → w'.cell? ⟨y, 1, none⟩ = some (.pointer (some ⟨f, 0, none⟩)) ∧ w'.cell? ⟨y, 2 + i * 3 + 2, none⟩ = some (.int .i64 l)) := fun w' hO => ⟨hO.c1, unhide CLc _ hO⟩
    have O2 := hide ((unhide O1).drew (unhide T0))
    refine wp_region_noPanic ?_
    refine wp_region_held_drew (S := fun w' => w'.cell? ⟨y, 1, none⟩ = some (.pointer (some ⟨f, 0, none⟩)) ∧ w'.cell? ⟨y, 2 + i * 3 + 2, none⟩ = some (.int .i64 l)) (by kernel_rfl) (unhide SC _ (unhide O2).st.rep) (fun hHeld => ?_)
    clear O1
    generalize w1.drew = wd at *
    refine take_at 0 17 (v := ?_) rfl rfl (by kernel_rfl) (by kernel_rfl) (by kernel_rfl) (Or.inl ⟨by rfl, ?_⟩) hHeld ?_
    rotate_left
    · intro w hSw; go_simp; with_reducible rfl
    simp only [Act.put, List.setIfInBounds_toArray, List.set_cons_zero, List.set_cons_succ]
    refine take_at 1 18 (v := ?_) rfl rfl (by kernel_rfl) (by kernel_rfl) (by kernel_rfl) (Or.inl ⟨by rfl, ?_⟩) hHeld ?_
    rotate_left
    · intro w hSw; go_simp; with_reducible rfl
    simp only [Act.put, List.setIfInBounds_toArray, List.set_cons_zero, List.set_cons_succ]
    refine take_at 2 19 (v := ?_) rfl rfl (by kernel_rfl) (by kernel_rfl) (by kernel_rfl) (Or.inl ⟨by rfl, ?_⟩) hHeld ?_
    rotate_left
    · intro w hSw; go_simp; with_reducible rfl
    simp only [Act.put, List.setIfInBounds_toArray, List.set_cons_zero, List.set_cons_succ]
    refine take_at 3 20 (v := ?_) rfl rfl (by kernel_rfl) (by kernel_rfl) (by kernel_rfl) (Or.inl ⟨by rfl, ?_⟩) hHeld ?_
    rotate_left
    · intro w hSw; obtain ⟨s1, s2⟩ := hSw; go_simp; with_reducible rfl
    simp only [Act.put, List.setIfInBounds_toArray, List.set_cons_zero, List.set_cons_succ]
    refine take_at 4 21 (v := ?_) rfl rfl (by kernel_rfl) (by kernel_rfl) (by kernel_rfl) (Or.inl ⟨by rfl, ?_⟩) hHeld ?_
    rotate_left
    · intro w hSw; go_simp; with_reducible rfl
    simp only [Act.put, List.setIfInBounds_toArray, List.set_cons_zero, List.set_cons_succ]
    refine take_at 5 22 (v := ?_) rfl rfl (by kernel_rfl) (by kernel_rfl) (by kernel_rfl) (Or.inl ⟨by rfl, ?_⟩) hHeld ?_
    rotate_left
    · intro w hSw; go_simp; with_reducible rfl
    simp only [Act.put, List.setIfInBounds_toArray, List.set_cons_zero, List.set_cons_succ]
    refine take_at 6 23 (v := ?_) rfl rfl (by kernel_rfl) (by kernel_rfl) (by kernel_rfl) (Or.inl ⟨by rfl, ?_⟩) hHeld ?_
    rotate_left
    · intro w hSw; go_simp; with_reducible rfl
    simp only [Act.put, List.setIfInBounds_toArray, List.set_cons_zero, List.set_cons_succ]
    refine take_at 7 24 (v := ?_) rfl rfl (by kernel_rfl) (by kernel_rfl) (by kernel_rfl) (Or.inl ⟨by rfl, ?_⟩) hHeld ?_
    rotate_left
    · intro w hSw; go_simp; with_reducible rfl
    simp only [Act.put, List.setIfInBounds_toArray, List.set_cons_zero, List.set_cons_succ]
    refine take_at 8 25 (v := ?_) rfl rfl (by kernel_rfl) (by kernel_rfl) (by kernel_rfl) (Or.inl ⟨by rfl, ?_⟩) hHeld ?_
    rotate_left
    · intro w hSw; go_simp; with_reducible rfl
    simp only [Act.put, List.setIfInBounds_toArray, List.set_cons_zero, List.set_cons_succ]
    refine take_at 9 26 (v := ?_) rfl rfl (by kernel_rfl) (by kernel_rfl) (by kernel_rfl) (Or.inl ⟨by rfl, ?_⟩) hHeld ?_
    rotate_left
    · intro w hSw; go_simp; with_reducible rfl
    simp only [Act.put, List.setIfInBounds_toArray, List.set_cons_zero, List.set_cons_succ]
    refine take_at 10 27 (v := ?_) rfl rfl (by kernel_rfl) (by kernel_rfl) (by kernel_rfl) (Or.inl ⟨by rfl, ?_⟩) hHeld ?_
    rotate_left
    · intro w hSw; obtain ⟨s1, s2⟩ := hSw; go_simp; with_reducible rfl
    simp only [Act.put, List.setIfInBounds_toArray, List.set_cons_zero, List.set_cons_succ]
    refine wpAnyH_ready (rs := [11]) (by kernel_rfl) (by simp) ?_
    refine AllReadyH.cons rfl (fun K2 hK => ?_) AllReadyH.nil
    go_simp
    refine (unhide CR _ (unhide O2).st.fr).mono ?_
    intro e w4 hw
    obtain ⟨rfl, h1, h2⟩ := (unhide O2).st.went M hw
    rw [← unhide HSE] at h1
    have OE := hide ((unhide O2).call (St' := YHas W z y f g St SE K A) h1 h2)
    go_wp2_with fail
    clear hHeld
    refine hK.out _ _ (unhide SC _ (by have := (unhide OE).st.rep; rw [unhide HSE] at this; exact this)) (fun hNew => ?_)
    clear hK K2 hNew O2 h1 h2 hw SC CR CLc
    refine wpAnyH_done (by kernel_rfl) ?_ _
    refine NoPanic.normal ?_
    have RE := hide ((unhide OE).st.rep.en i hi)
    rw [unhide HX] at RE
    have s3 : (Tryz.prog.info? 41).map (·.size) = some (ev ⟨k, v0, l⟩).toList.length := size3
    go_wp2_with (with_reducible refine wpList_load_mid (by with_unfolding_all rfl) 41 _ (by with_unfolding_all rfl) y (2 + i * 3) (by with_unfolding_all rfl) (ev ⟨k, v0, l⟩).toList _ (unhide RE) Tryz.underlying41 (by with_unfolding_all rfl) s3 ?_)
    refine (unhide CE _).mono ?_
    rintro e w5 ⟨rfl, hb⟩
    have OF := hide (((unhide OE).below (YHas.stay M y f g _ _ _) hb).alloc (YHas.stay M y f g _ _ _) (.cells #[.int .i64 0, .int .i64 N, .int .i64 0] 41))
    clear hb CE OE RE
    go_upto_region 7 with fail
    obtain ⟨g6, hg6⟩ : ∃ g6, g6 = w5.heap.size := ⟨_, rfl⟩
    rw [← hg6] at OF ⊢
    clear hg6
    generalize w5.alloc (.cells #[.int .i64 0, .int .i64 N, .int .i64 0] 41) = w6 at *
    have OG := hide ((unhide OF).drew (YHas.stay M y f g _ _ _))
    clear OF
    have RG : Hid (∀ w' : World, w'.heap[g6]? = some (.cells #[.int .i64 0, .int .i64 N, .int .i64 0] 41 (0, 0)) → w'.rangeAt g6 0 (ev ⟨0, N, 0⟩).toList) := fun w' h j v hv => by rw [cell_of_block h, Nat.zero_add, ← Array.getElem?_toList]; exact hv
    have R7 := hide (unhide RG _ ((unhide OG).at g6 _ (by simp)))
    have TB := hide ((unhide OG).st.there3 i hi)
    refine wp_region_noPanic ?_
    refine wp_region_held_drew (S := fun w' => w'.rangeAt g6 0 (ev ⟨0, N, 0⟩).toList) (by kernel_rfl) (unhide R7) (fun hHeld => ?_)
    generalize w6.drew = we at *
    refine take_at 0 39 (v := ?_) rfl rfl (by kernel_rfl) (by kernel_rfl) (by kernel_rfl) (Or.inl ⟨by rfl, ?_⟩) hHeld ?_
    rotate_left
    · intro w hSw; go_simp; with_reducible rfl
    simp only [Act.put, List.setIfInBounds_toArray, List.set_cons_zero, List.set_cons_succ]
    refine take_at 1 40 (v := ?_) rfl rfl (by kernel_rfl) (by kernel_rfl) (by kernel_rfl) (Or.inl ⟨by rfl, ?_⟩) hHeld ?_
    rotate_left
    · intro w hSw; go_simp; with_reducible rfl
    simp only [Act.put, List.setIfInBounds_toArray, List.set_cons_zero, List.set_cons_succ]
    refine take_at 2 41 rfl rfl (by kernel_rfl) (by kernel_rfl) (by kernel_rfl) (yieldsIf_load_mid (by rfl) 41 _ rfl g6 0 rfl (ev ⟨0, N, 0⟩).toList _ (fun w' h => h) Tryz.underlying41 rfl size3) hHeld ?_
    simp only [Act.put, List.setIfInBounds_toArray, List.set_cons_zero, List.set_cons_succ]
    refine take_at 3 42 (v := ?_) rfl rfl (by kernel_rfl) (by kernel_rfl) (by kernel_rfl) (Or.inl ⟨by rfl, ?_⟩) hHeld ?_
    rotate_left
    · intro w hSw; go_simp; with_reducible rfl
    simp only [Act.put, List.setIfInBounds_toArray, List.set_cons_zero, List.set_cons_succ]
    refine take_at 4 43 (v := ?_) rfl rfl (by kernel_rfl) (by kernel_rfl) (by kernel_rfl) (Or.inl ⟨by rfl, ?_⟩) hHeld ?_
    rotate_left
    · intro w hSw; go_simp; with_reducible rfl
    simp only [Act.put, List.setIfInBounds_toArray, List.set_cons_zero, List.set_cons_succ]
    refine take_at 5 44 (v := .pointer (some ⟨y, 2 + i * 3, none⟩)) rfl rfl (by kernel_rfl) (by kernel_rfl) (by kernel_rfl) (Or.inl ⟨by rfl, ?_⟩) hHeld ?_
    · intro w hSw; have hi1 : (i : Int) < 49 := by omega
      first | (go_simp; done) | (go_simp; rfl)
    simp only [Act.put, List.setIfInBounds_toArray, List.set_cons_zero, List.set_cons_succ]
    refine wpAnyH_ready (rs := [6]) (by kernel_rfl) (by simp) ?_
    refine AllReadyH.cons rfl (fun K2 hK => ?_) AllReadyH.nil
    refine (if_pos (by rfl)).mpr ?_
    refine wp_store_mid 41 (.tmp 44) (.tmp 41) rfl y (2 + i * 3) (ev ⟨0, N, 0⟩) rfl rfl (unhide TB) size3 (ev_one _) ?_
    have OT := hide (Held.turn (St' := YHas W z y f g St (SE.withW i ⟨0, N, 0⟩) K A) (w' := we.setCells y (2 + i * 3) (ev ⟨0, N, 0⟩).toList) (unhide OG) ((unhide OG).st.put M i hi ⟨0, N, 0⟩))
    have r7 := unhide RG _ ((unhide OT).at g6 _ (by simp))
    clear hHeld
    refine hK.out _ _ r7 (fun hNew => ?_)
    clear hK K2 hNew OG r7 R7 TB RG
    refine wpAnyH_done (by kernel_rfl) ?_ _
    refine NoPanic.normal ?_
    go_wp2_with fail
    go_ret
    rw [unhide ES]
    exact (unhide OT).done (YHas.stay M y f g _ _ _) _
  · have ES : Hid (S.endS (i : Int) = S.withW i ⟨0, N, 0⟩) := by
      show _ = _
      unfold Sto.endS Sto.endF
      rw [if_pos hf, eL, if_neg (by simp [ho]), Int.toNat_natCast, unhide HE]; rfl
    obtain ⟨SE, hSE⟩ : ∃ SE, SE = S := ⟨_, rfl⟩
    subst hSE
    have HX : Hid (SE.w i = ⟨k, v0, l⟩) := hx
    clear h hf hz hx eL hv hN HE hlin hl64 hl2 hm CR CLc
    go_enter Tryz.func24, Tryz.ntmps24
    go_wp2_with fail
    refine (unhide CI).mono ?_
    rintro e w0 ⟨rfl, hw0⟩
    subst hw0
    go_wp2_with fail
    refine (unhide CO).mono ?_
    rintro e w1 ⟨rfl, hkp⟩
    have O1 := hide ((unhide O0).keeps (unhide T0) hkp)
    rw [ho]
    clear hkp CO O0 CI
    have OE := O1
    clear O1
    have RE := hide ((unhide OE).st.rep.en i hi)
    rw [unhide HX] at RE
    have s3 : (Tryz.prog.info? 41).map (·.size) = some (ev ⟨k, v0, l⟩).toList.length := size3
    go_wp2_with (with_reducible refine wpList_load_mid (by with_unfolding_all rfl) 41 _ (by with_unfolding_all rfl) y (2 + i * 3) (by with_unfolding_all rfl) (ev ⟨k, v0, l⟩).toList _ (unhide RE) Tryz.underlying41 (by with_unfolding_all rfl) s3 ?_)
    refine (unhide CE _).mono ?_
    rintro e w5 ⟨rfl, hb⟩
    have OF := hide (((unhide OE).below (YHas.stay M y f g _ _ _) hb).alloc (YHas.stay M y f g _ _ _) (.cells #[.int .i64 0, .int .i64 N, .int .i64 0] 41))
    clear hb CE OE RE
    go_upto_region 7 with fail
    obtain ⟨g6, hg6⟩ : ∃ g6, g6 = w5.heap.size := ⟨_, rfl⟩
    rw [← hg6] at OF ⊢
    clear hg6
    generalize w5.alloc (.cells #[.int .i64 0, .int .i64 N, .int .i64 0] 41) = w6 at *
    have OG := hide ((unhide OF).drew (YHas.stay M y f g _ _ _))
    clear OF
    have RG : Hid (∀ w' : World, w'.heap[g6]? = some (.cells #[.int .i64 0, .int .i64 N, .int .i64 0] 41 (0, 0)) → w'.rangeAt g6 0 (ev ⟨0, N, 0⟩).toList) := fun w' h j v hv => by rw [cell_of_block h, Nat.zero_add, ← Array.getElem?_toList]; exact hv
    have R7 := hide (unhide RG _ ((unhide OG).at g6 _ (by simp)))
    have TB := hide ((unhide OG).st.there3 i hi)
    refine wp_region_noPanic ?_
    refine wp_region_held_drew (S := fun w' => w'.rangeAt g6 0 (ev ⟨0, N, 0⟩).toList) (by kernel_rfl) (unhide R7) (fun hHeld => ?_)
    generalize w6.drew = we at *
    refine take_at 0 39 (v := ?_) rfl rfl (by kernel_rfl) (by kernel_rfl) (by kernel_rfl) (Or.inl ⟨by rfl, ?_⟩) hHeld ?_
    rotate_left
    · intro w hSw; go_simp; with_reducible rfl
    simp only [Act.put, List.setIfInBounds_toArray, List.set_cons_zero, List.set_cons_succ]
    refine take_at 1 40 (v := ?_) rfl rfl (by kernel_rfl) (by kernel_rfl) (by kernel_rfl) (Or.inl ⟨by rfl, ?_⟩) hHeld ?_
    rotate_left
    · intro w hSw; go_simp; with_reducible rfl
    simp only [Act.put, List.setIfInBounds_toArray, List.set_cons_zero, List.set_cons_succ]
    refine take_at 2 41 rfl rfl (by kernel_rfl) (by kernel_rfl) (by kernel_rfl) (yieldsIf_load_mid (by rfl) 41 _ rfl g6 0 rfl (ev ⟨0, N, 0⟩).toList _ (fun w' h => h) Tryz.underlying41 rfl size3) hHeld ?_
    simp only [Act.put, List.setIfInBounds_toArray, List.set_cons_zero, List.set_cons_succ]
    refine take_at 3 42 (v := ?_) rfl rfl (by kernel_rfl) (by kernel_rfl) (by kernel_rfl) (Or.inl ⟨by rfl, ?_⟩) hHeld ?_
    rotate_left
    · intro w hSw; go_simp; with_reducible rfl
    simp only [Act.put, List.setIfInBounds_toArray, List.set_cons_zero, List.set_cons_succ]
    refine take_at 4 43 (v := ?_) rfl rfl (by kernel_rfl) (by kernel_rfl) (by kernel_rfl) (Or.inl ⟨by rfl, ?_⟩) hHeld ?_
    rotate_left
    · intro w hSw; go_simp; with_reducible rfl
    simp only [Act.put, List.setIfInBounds_toArray, List.set_cons_zero, List.set_cons_succ]
    refine take_at 5 44 (v := .pointer (some ⟨y, 2 + i * 3, none⟩)) rfl rfl (by kernel_rfl) (by kernel_rfl) (by kernel_rfl) (Or.inl ⟨by rfl, ?_⟩) hHeld ?_
    · intro w hSw; have hi1 : (i : Int) < 49 := by omega
      first | (go_simp; done) | (go_simp; rfl)
    simp only [Act.put, List.setIfInBounds_toArray, List.set_cons_zero, List.set_cons_succ]
    refine wpAnyH_ready (rs := [6]) (by kernel_rfl) (by simp) ?_
    refine AllReadyH.cons rfl (fun K2 hK => ?_) AllReadyH.nil
    refine (if_pos (by rfl)).mpr ?_
    refine wp_store_mid 41 (.tmp 44) (.tmp 41) rfl y (2 + i * 3) (ev ⟨0, N, 0⟩) rfl rfl (unhide TB) size3 (ev_one _) ?_
    have OT := hide (Held.turn (St' := YHas W z y f g St (SE.withW i ⟨0, N, 0⟩) K A) (w' := we.setCells y (2 + i * 3) (ev ⟨0, N, 0⟩).toList) (unhide OG) ((unhide OG).st.put M i hi ⟨0, N, 0⟩))
    have r7 := unhide RG _ ((unhide OT).at g6 _ (by simp))
    clear hHeld
    refine hK.out _ _ r7 (fun hNew => ?_)
    clear hK K2 hNew OG r7 R7 TB RG
    refine wpAnyH_done (by kernel_rfl) ?_ _
    refine NoPanic.normal ?_
    go_wp2_with fail
    go_ret
    rw [unhide ES]
    exact (unhide OT).done (YHas.stay M y f g _ _ _) _
theorem yend_any {W w : World} {z y f g : Nat} {St : Mm → World → (Nat → Prop) → Prop} {S : Sto} {K : Nat → En} {A : Mm} {G : Nat → Prop} (M : MemR W z St) (h : YHas W z y f g St S K A w G) (hm : Mks S K) (hS : S.ok) (hlin : ∀ i, i < 49 → FIn64 (S.w i).l) (x : Int) :
    Calls Tryz.prog 24 #[.pointer (some ⟨y, 0, none⟩), .int .i64 x] w (Done (YHas W z y f g St (S.endS x) K A) w G (.int .i64 (S.findE x))) := by
  by_cases hf : S.findE x = 0
  · rw [hf]; exact yend_some M h hm hS hlin x hf
  · have e : S.endS x = S := if_neg hf
    rw [e]
    exact yend_none h x hf

end Go.Proofs.YtinhnnnehhlceaaGreat
