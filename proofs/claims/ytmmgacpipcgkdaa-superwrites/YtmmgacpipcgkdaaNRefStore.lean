
/-
  What the document's Store does.
-/
import Derived.Test.YtmmgacpipcgkdaaNRefCrash
namespace Go.Proofs.Ytmmgacpipcgkdaa
open Go.ChangeShapes Go.WideShapes Go.ChangeAt Go.RowKit Go.Joins
set_option maxRecDepth 10000
set_option linter.unusedVariables false
set_option linter.unusedSimpArgs false

section
variable {w : World} {F : Nat → Prop} {b gs cs gl : Nat} {A : Mm} {ads : Nat → Option Nat} {caps : Nat → Nat}

/-- The ten cells of a new store. -/
def newD (q : Nat) (v : Int) : Array Value := #[.int .i64 (q : Int), .int .u64 v, .bool false, .bool false, .bool false, .bool false, .bool false, .bool false, .bool false, .bool false]
theorem doneV_store (l : Ln) (q : Nat) (v : Int) (hf : ∀ j, l.f j ≤ l.t.length) : doneV (l.store q v) = doneV l ++ (newD q v).toList := by
  apply List.ext_getElem?
  intro i
  have hl : (l.store q v).t.length = l.t.length + 1 := by simp [Ln.store]
  by_cases h1 : i < l.t.length * 10
  · rw [List.getElem?_append_left (by rw [doneV_len]; exact h1)]
    simp only [doneV, hl, List.getElem?_map, List.getElem?_range h1, List.getElem?_range (show i < (l.t.length + 1) * 10 by omega), Option.map_some, Option.some.injEq]
    unfold doneAt Ln.store
    simp only [List.getD_eq_getElem?_getD, List.getElem?_append_left (show i / 10 < l.t.length by omega)]
  · rw [List.getElem?_append_right (by rw [doneV_len]; omega), doneV_len]
    by_cases h2 : i < (l.t.length + 1) * 10
    · obtain ⟨c, hc, rfl⟩ : ∃ c, c < 10 ∧ i = l.t.length * 10 + c := ⟨i - l.t.length * 10, by omega, by omega⟩
      simp only [doneV, hl, List.getElem?_map, List.getElem?_range h2, Option.map_some, show l.t.length * 10 + c - l.t.length * 10 = c by omega]
      unfold doneAt
      rw [show (l.t.length * 10 + c) / 10 = l.t.length by omega, show (l.t.length * 10 + c) % 10 = c by omega]
      have hg : (l.store q v).t.getD l.t.length (0, 0) = (q, v) := by simp [Ln.store]
      rw [hg]
      have hfl : ∀ d, decide (l.t.length < (l.store q v).f d) = false := fun d => decide_eq_false (by have := hf d; show ¬ l.t.length < l.f d; omega)
      rcases (show c = 0 ∨ c = 1 ∨ c = 2 ∨ c = 3 ∨ c = 4 ∨ c = 5 ∨ c = 6 ∨ c = 7 ∨ c = 8 ∨ c = 9 by omega) with rfl | rfl | rfl | rfl | rfl | rfl | rfl | rfl | rfl | rfl <;> simp [newD, hfl]
    · rw [List.getElem?_eq_none (by rw [doneV_len, hl]; omega), List.getElem?_eq_none (by simp [newD]; omega)]

/-- Behind the step: the row of a line's stores is made anew, with one more. -/
theorem rstore_end {w4 : World} (h : RRep w F b A gs cs gl ads caps) (k q : Nat) (v : Int) (hk : k < A.n) (hg4 : Keeps (fun _ => False) w w4) (g' cap' : Nat) (hbase : w.heap.size ≤ g') (hrow : RRow w4 ((A.l k).store q v) (some g') cap') :
    ∃ F' ads' caps', RRep (w4.setCell ⟨gl, k, none⟩ (.slice (some ⟨g', 0, none⟩) ((A.l k).t.length + 1) cap')) F' b ⟨A.n, upd A.l k ((A.l k).store q v), A.on, A.fuse, A.steps⟩ gs cs gl ads' caps' ∧ Keeps F w (w4.setCell ⟨gl, k, none⟩ (.slice (some ⟨g', 0, none⟩) ((A.l k).t.length + 1) cap')) ∧ Grew F w F' := by
  have hK4 : Keeps (fun x => x = gl) w (w4.setCell ⟨gl, k, none⟩ (.slice (some ⟨g', 0, none⟩) ((A.l k).t.length + 1) cap')) :=
    Keeps.setCell (F := fun x => x = gl) (p := ⟨gl, k, none⟩) (hg4.mono fun _ _ f => f.elim) rfl _
  have hgl : gl < w.heap.size := h.lt gl h.fl
  have hkl : Keeps (· = gl) w4 (w4.setCell ⟨gl, k, none⟩ (.slice (some ⟨g', 0, none⟩) ((A.l k).t.length + 1) cap')) := Keeps.setCell (F := (· = gl)) (p := ⟨gl, k, none⟩) (Keeps.refl _ _) rfl _
  obtain ⟨N, f, b1, b2, _, b3⟩ := h.sb
  refine ⟨_, _, _, h.line k hk ((A.l k).store q v) (some g') cap' hK4 (fun x hx => Or.inr (Or.inl hx)) ⟨N, f, b1.keeps hK4 h.d3, b2, fun i hi => ?_⟩ ?_ ?_ (fun g e => ?_), hK4.mono fun x _ hx => by rw [hx]; exact h.fl, fun x hx => ?_⟩
  · rw [b3 i hi]
    by_cases e : i / 8 = k
    · rw [e, upd_same]; rfl
    · rw [upd_other _ _ _ _ e]
  · refine ((h.lb.keeps hg4 id).set k _).ext fun i _ => ?_
    rw [show ((A.l k).store q v).t.length = (A.l k).t.length + 1 by simp [Ln.store]]; rfl
  · exact hrow.keeps hkl fun g e e2 => by cases e; omega
  · cases e; exact Or.inr hbase
  · rcases hx with hx | hx
    · exact Or.inl hx
    · cases hx; exact Or.inr hbase
theorem built_done (q : Nat) (v : Int) : Try.prog.built 95 [(0, .int .i64 (q : Int)), (1, .int .u64 v)] = some #[.int .i64 (q : Int), .int .u64 v, .bool false, .bool false, .bool false, .bool false, .bool false, .bool false, .bool false, .bool false] := by kernel_rfl

theorem own_ne {V : World} {base E nb : Nat} {q : Nat} {v : Int} (h : V.ownsRow base 95 10 (.slice (some ⟨E, 0, none⟩) 0 0) 0 []) (hn : V.heap[nb]? = some (.cells (newD q v) 95 (0, 0))) : nb ≠ E := fun e => by
  rcases h.2 with ⟨h', _⟩ | ⟨g', cap', cur, h', _, hg, _, _, hcs, _⟩
  · simp at h'
  · simp only [Value.slice.injEq, Option.some.injEq, Addr.mk.injEq, and_true, true_and] at h'
    obtain ⟨rfl, rfl⟩ := h'
    rw [← e, hn] at hg
    simp at hg
    rw [← hg] at hcs
    simp [newD] at hcs

theorem rstore_good (h : RRep w F b A gs cs gl ads caps) (hok : A.ok 1000) (k q : Nat) (v : Int) (hk : k < A.n) (hq : q < 8) :
    Calls Try.prog 38 #[.pointer (some ⟨b, 0, none⟩), .int .i64 k, .int .i64 q, .int .u64 v] w (RWent F w b gs cs gl (A.store k q v) (.int .i64 A.err)) := by
  obtain ⟨o1, o2, o3, o4, o5, o6, o7⟩ := hok
  have D1 : decide ((0 : Int) ≤ (k : Int) ∧ (k : Int) < (A.n : Int)) = true := by simp; omega
  have hk' : (k : Int) < (A.n : Int) := by omega
  have hq' : ¬ ((7 : Int) < (q : Int)) := by omega
  have H := hide h
  have CT := hide (rstep_any h (by omega) o5 o6)
  clear h
  by_cases hm : A.may = true
  · have he := err_on A hm
    have HSF : Hid (A.store k q v = ⟨A.n, upd A.l k ((A.l k).store q v), (A.stepped A.l).on, (A.stepped A.l).fuse, (A.stepped A.l).steps⟩) := step_on A _ hm
    have HSL := hide (step_on A A.l hm)
    go_enter Try.func38, Try.ntmps38
    go_wp2_with fail
    refine (ris_any (unhide H) _).mono ?_
    rintro e w1 ⟨rfl, rfl⟩
    rw [D1]
    go_wp2_with fail
    refine (unhide CT).mono ?_
    rintro e X ⟨rfl, hr1, hk1⟩
    rw [unhide HSL] at hr1
    have HR1 := hide hr1
    have HK1 := hide hk1
    rw [he]
    have Y1 : Hid (X.cell? ⟨b, 1, none⟩ = some (.slice (some ⟨gl, 0, none⟩) A.n A.n)) := hr1.c1
    obtain ⟨ao, hao⟩ : ∃ ao, ao = slot0 (ads k) := ⟨_, rfl⟩
    have XL : Hid (X.cell? ⟨gl, k, none⟩ = some (.slice ao (A.l k).t.length (caps k))) := by rw [hao]; exact hr1.lc k hk
    have XF : Hid (X.frozen? ⟨gl, k, none⟩ = false) := hr1.lb.free _
    have HGB : Hid (gl ≠ b) := Ne.symm hr1.d2
    have HFL := hide (o3 k).2.2
    have SNO : Hid (ao = none → (A.l k).t.length = 0 ∧ caps k = 0) := fun e => by
      have hrow : RRow X (A.l k) (ads k) (caps k) := hr1.row k hk
      rcases hrow with ⟨_, h1, h2⟩ | ⟨g, N, f, h1, _⟩
      · exact ⟨by rw [h2]; rfl, h1⟩
      · rw [hao, h1] at e; simp [slot0] at e
    have SCE : Hid (∀ V : World, Keeps (fun _ => False) X V → ∀ ad, ao = some ad → ∀ j u, (doneV (A.l k))[j]? = some u → V.cell? (ad.add j) = some u) := fun V hV ad had j u hj => by
      have hrow : RRow X (A.l k) (ads k) (caps k) := hr1.row k hk
      rw [hao] at had
      cases hg : ads k with
      | none => rw [hg] at had; simp [slot0] at had
      | some g =>
        rw [hg] at had hrow
        simp [slot0] at had
        subst had
        rw [Addr.add_mid]
        have := rrow_cells hrow 0 (Nat.zero_le _) j u (by rw [Ln.settle_zero]; exact hj)
        rw [Nat.zero_mul] at this
        exact hV.cellOf this id
    have hlen := o4 k
    have HND : Hid (newD q v = #[.int .i64 (q : Int), .int .u64 v, .bool false, .bool false, .bool false, .bool false, .bool false, .bool false, .bool false, .bool false]) := rfl
    clear hr1 hk1 CT hao
    go_wp2_with fail
    refine wp_region_noPanic ?_
    refine wp_region_held_drew (S := fun w' => w'.cell? ⟨b, 1, none⟩ = some (.slice (some ⟨gl, 0, none⟩) A.n A.n)) (by kernel_rfl) (unhide Y1) (fun hHeld => ?_)
    refine take_at 0 26 (v := ?_) rfl rfl (by kernel_rfl) (by kernel_rfl) (by kernel_rfl) (Or.inl ⟨by rfl, ?_⟩) hHeld ?_
    rotate_left
    · intro w hSw; go_simp; with_reducible rfl
    simp only [Act.put, List.setIfInBounds_toArray, List.set_cons_zero, List.set_cons_succ]
    refine take_at 1 27 (v := ?_) rfl rfl (by kernel_rfl) (by kernel_rfl) (by kernel_rfl) (Or.inl ⟨by rfl, ?_⟩) hHeld ?_
    rotate_left
    · intro w hSw; go_simp; with_reducible rfl
    simp only [Act.put, List.setIfInBounds_toArray, List.set_cons_zero, List.set_cons_succ]
    refine take_at 2 28 (v := ?_) rfl rfl (by kernel_rfl) (by kernel_rfl) (by kernel_rfl) (Or.inl ⟨by rfl, ?_⟩) hHeld ?_
    rotate_left
    · intro w hSw; go_simp; with_reducible rfl
    simp only [Act.put, List.setIfInBounds_toArray, List.set_cons_zero, List.set_cons_succ]
    refine take_at 3 29 (v := ?_) rfl rfl (by kernel_rfl) (by kernel_rfl) (by kernel_rfl) (Or.inl ⟨by rfl, ?_⟩) hHeld ?_
    rotate_left
    · intro w hSw; go_simp; with_reducible rfl
    simp only [Act.put, List.setIfInBounds_toArray, List.set_cons_zero, List.set_cons_succ]
    refine take_at 4 30 (v := ?_) rfl rfl (by kernel_rfl) (by kernel_rfl) (by kernel_rfl) (Or.inl ⟨by rfl, ?_⟩) hHeld ?_
    rotate_left
    · intro w hSw; go_simp; with_reducible rfl
    simp only [Act.put, List.setIfInBounds_toArray, List.set_cons_zero, List.set_cons_succ]
    refine take_at 6 32 (v := ?_) rfl rfl (by kernel_rfl) (by kernel_rfl) (by kernel_rfl) (Or.inl ⟨by rfl, ?_⟩) hHeld ?_
    rotate_left
    · intro w hSw; go_simp; with_reducible rfl
    simp only [Act.put, List.setIfInBounds_toArray, List.set_cons_zero, List.set_cons_succ]
    refine take_at 7 33 (v := ?_) rfl rfl (by kernel_rfl) (by kernel_rfl) (by kernel_rfl) (Or.inl ⟨by rfl, ?_⟩) hHeld ?_
    rotate_left
    · intro w hSw; go_simp; with_reducible rfl
    simp only [Act.put, List.setIfInBounds_toArray, List.set_cons_zero, List.set_cons_succ]
    refine take_at 8 34 (v := ?_) rfl rfl (by kernel_rfl) (by kernel_rfl) (by kernel_rfl) (Or.inl ⟨by rfl, ?_⟩) hHeld ?_
    rotate_left
    · intro w hSw; go_simp; with_reducible rfl
    simp only [Act.put, List.setIfInBounds_toArray, List.set_cons_zero, List.set_cons_succ]
    refine take_at 9 35 (v := ?_) rfl rfl (by kernel_rfl) (by kernel_rfl) (by kernel_rfl) (Or.inl ⟨by rfl, ?_⟩) hHeld ?_
    rotate_left
    · intro w hSw; go_simp; with_reducible rfl
    simp only [Act.put, List.setIfInBounds_toArray, List.set_cons_zero, List.set_cons_succ]
    refine take_at 10 36 (v := ?_) rfl rfl (by kernel_rfl) (by kernel_rfl) (by kernel_rfl) (Or.inl ⟨by rfl, ?_⟩) hHeld ?_
    rotate_left
    · intro w hSw; go_simp; with_reducible rfl
    simp only [Act.put, List.setIfInBounds_toArray, List.set_cons_zero, List.set_cons_succ]
    refine take_at 11 37 (v := ?_) rfl rfl (by kernel_rfl) (by kernel_rfl) (by kernel_rfl) (Or.inl ⟨by rfl, ?_⟩) hHeld ?_
    rotate_left
    · intro w hSw; go_simp; with_reducible rfl
    simp only [Act.put, List.setIfInBounds_toArray, List.set_cons_zero, List.set_cons_succ]
    refine take_at 14 40 (v := ?_) rfl rfl (by kernel_rfl) (by kernel_rfl) (by kernel_rfl) (Or.inl ⟨by rfl, ?_⟩) hHeld ?_
    rotate_left
    · intro w hSw; go_simp; with_reducible rfl
    simp only [Act.put, List.setIfInBounds_toArray, List.set_cons_zero, List.set_cons_succ]
    refine take_at 15 41 (v := ?_) rfl rfl (by kernel_rfl) (by kernel_rfl) (by kernel_rfl) (Or.inl ⟨by rfl, ?_⟩) hHeld ?_
    rotate_left
    · intro w hSw; go_simp; with_reducible rfl
    simp only [Act.put, List.setIfInBounds_toArray, List.set_cons_zero, List.set_cons_succ]
    refine take_at 16 42 rfl rfl (by kernel_rfl) (by kernel_rfl) (by kernel_rfl) (yieldsIf_build2 (by rfl) 95 0 1 (.tmp 40) (.tmp 41) rfl (.int .i64 (q : Int)) (.int .u64 v) rfl rfl _ (built_done q v)) hHeld ?_
    simp only [Act.put, List.setIfInBounds_toArray, List.set_cons_zero, List.set_cons_succ]
    have HV : Hid (Keeps (fun _ => False) X X.drew) := (Keeps.refl _ _).drew
    generalize X.drew = V at *
    refine wpAnyH_ready (rs := [5, 12, 17]) (by kernel_rfl) (by simp) ?_
    refine AllReadyH.cons rfl (fun K hK => ?_) (AllReadyH.cons rfl (fun K hK => ?_) (AllReadyH.cons rfl (fun K hK => ?_) AllReadyH.nil))
    · skip
      go_simp
      refine hK.out _ _ (cell_under hHeld _) (fun hNew => ?_)
      have OWa : Hid ((V.alloc (.cells #[] 95)).ownsRow X.heap.size 95 10 (.slice (some ⟨V.heap.size, 0, none⟩) 0 0) 0 []) := World.ownsRow_lit (base := X.heap.size) (e := 95) (size := 10) V #[] 0 (unhide HV).size (by decide) rfl
      have HV1 : Hid (Keeps (fun _ => False) X (V.alloc (.cells #[] 95))) := (unhide HV).alloc _
      clear HV
      have HV := HV1
      clear HV1
      try (have NB1 := hide ((Below.heap_alloc V (.cells #[] 95) nb (lt_of_block (unhide NBq))).trans (unhide NBq)); clear NBq; have NBq := NB1; clear NB1)
      have HEX : Hid (X.heap.size ≤ V.heap.size) := by
        have h1 : X.heap.size ≤ V.heap.size := by have := (unhide OWa).2; rcases this with ⟨h', _⟩ | ⟨g', _, _, h', h2, _⟩; simp at h'; simp at h'; obtain ⟨rfl, _⟩ := h'; exact h2
        exact h1
      obtain ⟨E, hE⟩ : ∃ E, E = V.heap.size := ⟨_, rfl⟩
      rw [← hE] at OWa HEX ⊢
      clear hE
      obtain ⟨V, hV⟩ : ∃ V' : World, V' = V.alloc (.cells #[] 95) := ⟨_, rfl⟩
      rw [← hV] at OWa HV hNew ⊢
      try rw [← hV] at NBq
      clear hV
      clear hK K hHeld
      have hHeld := hNew
      clear hNew
      try simp only [Act.put, List.setIfInBounds_toArray]
      refine wpAnyH_ready (rs := [12, 17]) (by kernel_rfl) (by simp) ?_
      refine AllReadyH.cons rfl (fun K hK => ?_) (AllReadyH.cons rfl (fun K hK => ?_) AllReadyH.nil)
      · skip
        have xl := (unhide HV).cellOf (unhide XL) id
        go_simp
        clear xl
        refine hK.out _ _ hHeld (fun hNew => ?_)
        clear hK K hHeld
        have hHeld := hNew
        clear hNew
        try simp only [Act.put, List.setIfInBounds_toArray]
        refine wpAnyH_ready (rs := [13, 17]) (by kernel_rfl) (by simp) ?_
        refine AllReadyH.cons rfl (fun K hK => ?_) (AllReadyH.cons rfl (fun K hK => ?_) AllReadyH.nil)
        · skip
          refine (if_pos (by rfl)).mpr ?_
          obtain ⟨i0, hi, hz0, hz1, hz2⟩ := info_parts info_done
          refine wp_append_src (.tmp 31) (.tmp 38) 84 rfl X.heap.size 95 i0 _ 10 24 Try.underlying84 hi hz0 hz1 hz2 rfl (by decide) (.slice (some ⟨E, 0, none⟩) 0 0) 0 [] rfl (unhide OWa) ao (A.l k).t.length (caps k) (doneV (A.l k)) rfl (unhide SNO) (doneV_len _) (unhide SCE V (unhide HV)) (doneV_one _) (by unfold maxLen; omega) (by omega) (unhide HV).size ?_
          intro v1 w4 hown hgr hnil
          rw [Nat.zero_add, List.nil_append] at hown
          have OWp := hide hown
          have HN1 : Hid (v1 ≠ .slice none 0 0) := hnil (by simp)
          have HV1 : Hid (Keeps (fun _ => False) X w4) := Keeps.grown (unhide HV) hgr (fun k hk => by simp [Value.ownBlock] at hk; right; have := unhide HEX; omega)
          try (have NB1 := hide ((hgr.block nb (lt_of_block (unhide NBq)) (fun e => own_ne (unhide OWa) (unhide NBq) (by simpa [Value.ownBlock] using e))).trans (unhide NBq)); clear NBq; have NBq := NB1; clear NB1)
          refine hK.out _ _ ((unhide HV1).cellOf (unhide Y1) id) (fun hNew => ?_)
          clear HV OWa hown hgr hnil hi hz0 hz1 hz2 i0
          have HV := HV1
          clear HV1
          obtain ⟨V, hV⟩ : ∃ V' : World, V' = w4 := ⟨_, rfl⟩
          rw [← hV] at OWp HV hNew ⊢
          try rw [← hV] at NBq
          clear hV
          clear hK K hHeld
          have hHeld := hNew
          clear hNew
          try simp only [Act.put, List.setIfInBounds_toArray]
          refine wpAnyH_ready (rs := [17]) (by kernel_rfl) (by simp) ?_
          refine AllReadyH.cons rfl (fun K hK => ?_) AllReadyH.nil
          go_simp
          refine hK.out _ _ (cell_under hHeld _) (fun hNew => ?_)
          have NBq : Hid ((V.alloc (.cells #[.int .i64 (q : Int), .int .u64 v, .bool false, .bool false, .bool false, .bool false, .bool false, .bool false, .bool false, .bool false] 95)).heap[V.heap.size]? = some (.cells (newD q v) 95 (0, 0))) := heap_new V _
          have HV1 : Hid (Keeps (fun _ => False) X (V.alloc (.cells #[.int .i64 (q : Int), .int .u64 v, .bool false, .bool false, .bool false, .bool false, .bool false, .bool false, .bool false, .bool false] 95))) := (unhide HV).alloc _
          clear HV
          have HV := HV1
          clear HV1
          try (have OW1 := hide ((unhide OWa).alloc (.cells #[.int .i64 (q : Int), .int .u64 v, .bool false, .bool false, .bool false, .bool false, .bool false, .bool false, .bool false, .bool false] 95)); clear OWa; have OWa := OW1; clear OW1)
          try (have OW1 := hide ((unhide OWp).alloc (.cells #[.int .i64 (q : Int), .int .u64 v, .bool false, .bool false, .bool false, .bool false, .bool false, .bool false, .bool false, .bool false] 95)); clear OWp; have OWp := OW1; clear OW1)
          obtain ⟨nb, hnb⟩ : ∃ nb, nb = V.heap.size := ⟨_, rfl⟩
          rw [← hnb] at NBq ⊢
          clear hnb
          obtain ⟨V, hV⟩ : ∃ V' : World, V' = V.alloc (.cells #[.int .i64 (q : Int), .int .u64 v, .bool false, .bool false, .bool false, .bool false, .bool false, .bool false, .bool false, .bool false] 95) := ⟨_, rfl⟩
          rw [← hV] at NBq HV hNew ⊢
          try rw [← hV] at OWa
          try rw [← hV] at OWp
          clear hV
          clear hK K hHeld
          have hHeld := hNew
          clear hNew
          try simp only [Act.put, List.setIfInBounds_toArray]
          refine wpAnyH_ready (rs := [18]) (by kernel_rfl) (by simp) ?_
          refine AllReadyH.cons rfl (fun K hK => ?_) AllReadyH.nil
          refine (if_pos (by rfl)).mpr ?_
          obtain ⟨i0, hi, hz0, hz1, hz2⟩ := info_parts info_done
          refine wp_append_own _ (.tmp 39) (.tmp 43) 84 rfl X.heap.size 95 i0 _ 10 24 Try.underlying84 hi hz0 hz1 hz2 rfl (by decide) v1 (A.l k).t.length (doneV (A.l k)) rfl (unhide OWp) ⟨nb, 0, none⟩ 1 1 (newD q v).toList rfl rfl (fun j u hj => by rw [Addr.add_mid, Nat.zero_add, cell_of_block (unhide NBq)]; rw [Array.getElem?_toList] at hj; exact hj) (by intro u hu; simp [newD] at hu; rcases hu with rfl | rfl | rfl <;> rfl) (by unfold maxLen; omega) (by omega) (unhide HV).size ?_
          intro v2 w6 hown hgr hnil
          rw [← doneV_store (A.l k) q v (unhide HFL)] at hown
          have hl2 : (A.l k).t.length + 1 = ((A.l k).store q v).t.length := by simp [Ln.store]
          rw [hl2] at hown
          obtain ⟨g', cap', rfl, hb', hrow'⟩ := rrow_new hown (fun h => unhide HN1 (hnil.1 h).1)
          rw [← hl2]
          have HV6 : Hid (Keeps (fun _ => False) X w6) := Keeps.grown (unhide HV) hgr (fun k hk => by
            right
            rcases (unhide OWp).2 with ⟨h1, _⟩ | ⟨g2, _, _, h1, h2, _⟩
            · rw [h1] at hk; simp [Value.ownBlock] at hk
            · rw [h1] at hk; simp [Value.ownBlock] at hk; omega)
          have HROW := hide hrow'
          have HB' := hide hb'
          have y6 := (unhide HV6).cellOf (unhide Y1) id
          have l6 := (unhide HV6).cellOf (unhide XL) id
          have f6 : w6.frozen? ⟨gl, k, none⟩ = false := by rw [World.frozen?_of_block (w := X) ((unhide HV6).block gl (World.block_lt_of_cell? X _ (unhide XL)) id)]; exact unhide XF
          refine hK.out _ _ y6 (fun hNew => ?_)
          clear hown hgr hnil hrow' hb' hi hz0 hz1 hz2 i0 hl2 HV OWp NBq
          clear hK K hHeld
          have hHeld := hNew
          clear hNew
          try simp only [Act.put, List.setIfInBounds_toArray]
          refine take_at 19 45 (v := ?_) rfl rfl (by kernel_rfl) (by kernel_rfl) (by kernel_rfl) (Or.inl ⟨by rfl, ?_⟩) hHeld ?_
          rotate_left
          · intro w hSw; go_simp; with_reducible rfl
          simp only [Act.put, List.setIfInBounds_toArray, List.set_cons_zero, List.set_cons_succ]
          refine wpAnyH_ready (rs := [20]) (by kernel_rfl) (by simp) ?_
          refine AllReadyH.cons rfl (fun K hK => ?_) AllReadyH.nil
          go_simp
          refine hK.out _ _ ((World.cell?_setCell_far _ _ _ _ (unhide HGB)).trans y6) (fun hNew => ?_)
          clear hK K hHeld hNew
          refine wpAnyH_done (by kernel_rfl) ?_ _
          refine NoPanic.normal ?_
          clear y6 l6 f6
          have END := hide (rstore_end (unhide HR1) k q v hk (unhide HV6) g' cap' (unhide HB') (unhide HROW))
          clear HV6 HROW HB'
          go_wp2_with fail
          go_ret
          obtain ⟨F', ads', caps', r1, r2, r3⟩ := unhide END
          rw [unhide HSF]
          try rw [he]
          exact ⟨rfl, F', ads', caps', r1, (unhide HK1).trans' r2, fun x hx => (r3 x hx).imp id fun h => Nat.le_trans (unhide HK1).size h⟩
        · skip
          go_simp
          refine hK.out _ _ (cell_under hHeld _) (fun hNew => ?_)
          have NBq : Hid ((V.alloc (.cells #[.int .i64 (q : Int), .int .u64 v, .bool false, .bool false, .bool false, .bool false, .bool false, .bool false, .bool false, .bool false] 95)).heap[V.heap.size]? = some (.cells (newD q v) 95 (0, 0))) := heap_new V _
          have HV1 : Hid (Keeps (fun _ => False) X (V.alloc (.cells #[.int .i64 (q : Int), .int .u64 v, .bool false, .bool false, .bool false, .bool false, .bool false, .bool false, .bool false, .bool false] 95))) := (unhide HV).alloc _
          clear HV
          have HV := HV1
          clear HV1
          try (have OW1 := hide ((unhide OWa).alloc (.cells #[.int .i64 (q : Int), .int .u64 v, .bool false, .bool false, .bool false, .bool false, .bool false, .bool false, .bool false, .bool false] 95)); clear OWa; have OWa := OW1; clear OW1)
          try (have OW1 := hide ((unhide OWp).alloc (.cells #[.int .i64 (q : Int), .int .u64 v, .bool false, .bool false, .bool false, .bool false, .bool false, .bool false, .bool false, .bool false] 95)); clear OWp; have OWp := OW1; clear OW1)
          obtain ⟨nb, hnb⟩ : ∃ nb, nb = V.heap.size := ⟨_, rfl⟩
          rw [← hnb] at NBq ⊢
          clear hnb
          obtain ⟨V, hV⟩ : ∃ V' : World, V' = V.alloc (.cells #[.int .i64 (q : Int), .int .u64 v, .bool false, .bool false, .bool false, .bool false, .bool false, .bool false, .bool false, .bool false] 95) := ⟨_, rfl⟩
          rw [← hV] at NBq HV hNew ⊢
          try rw [← hV] at OWa
          try rw [← hV] at OWp
          clear hV
          clear hK K hHeld
          have hHeld := hNew
          clear hNew
          try simp only [Act.put, List.setIfInBounds_toArray]
          refine wpAnyH_ready (rs := [13]) (by kernel_rfl) (by simp) ?_
          refine AllReadyH.cons rfl (fun K hK => ?_) AllReadyH.nil
          refine (if_pos (by rfl)).mpr ?_
          obtain ⟨i0, hi, hz0, hz1, hz2⟩ := info_parts info_done
          refine wp_append_src (.tmp 31) (.tmp 38) 84 rfl X.heap.size 95 i0 _ 10 24 Try.underlying84 hi hz0 hz1 hz2 rfl (by decide) (.slice (some ⟨E, 0, none⟩) 0 0) 0 [] rfl (unhide OWa) ao (A.l k).t.length (caps k) (doneV (A.l k)) rfl (unhide SNO) (doneV_len _) (unhide SCE V (unhide HV)) (doneV_one _) (by unfold maxLen; omega) (by omega) (unhide HV).size ?_
          intro v1 w4 hown hgr hnil
          rw [Nat.zero_add, List.nil_append] at hown
          have OWp := hide hown
          have HN1 : Hid (v1 ≠ .slice none 0 0) := hnil (by simp)
          have HV1 : Hid (Keeps (fun _ => False) X w4) := Keeps.grown (unhide HV) hgr (fun k hk => by simp [Value.ownBlock] at hk; right; have := unhide HEX; omega)
          try (have NB1 := hide ((hgr.block nb (lt_of_block (unhide NBq)) (fun e => own_ne (unhide OWa) (unhide NBq) (by simpa [Value.ownBlock] using e))).trans (unhide NBq)); clear NBq; have NBq := NB1; clear NB1)
          refine hK.out _ _ ((unhide HV1).cellOf (unhide Y1) id) (fun hNew => ?_)
          clear HV OWa hown hgr hnil hi hz0 hz1 hz2 i0
          have HV := HV1
          clear HV1
          obtain ⟨V, hV⟩ : ∃ V' : World, V' = w4 := ⟨_, rfl⟩
          rw [← hV] at OWp HV hNew ⊢
          try rw [← hV] at NBq
          clear hV
          clear hK K hHeld
          have hHeld := hNew
          clear hNew
          try simp only [Act.put, List.setIfInBounds_toArray]
          refine wpAnyH_ready (rs := [18]) (by kernel_rfl) (by simp) ?_
          refine AllReadyH.cons rfl (fun K hK => ?_) AllReadyH.nil
          refine (if_pos (by rfl)).mpr ?_
          obtain ⟨i0, hi, hz0, hz1, hz2⟩ := info_parts info_done
          refine wp_append_own _ (.tmp 39) (.tmp 43) 84 rfl X.heap.size 95 i0 _ 10 24 Try.underlying84 hi hz0 hz1 hz2 rfl (by decide) v1 (A.l k).t.length (doneV (A.l k)) rfl (unhide OWp) ⟨nb, 0, none⟩ 1 1 (newD q v).toList rfl rfl (fun j u hj => by rw [Addr.add_mid, Nat.zero_add, cell_of_block (unhide NBq)]; rw [Array.getElem?_toList] at hj; exact hj) (by intro u hu; simp [newD] at hu; rcases hu with rfl | rfl | rfl <;> rfl) (by unfold maxLen; omega) (by omega) (unhide HV).size ?_
          intro v2 w6 hown hgr hnil
          rw [← doneV_store (A.l k) q v (unhide HFL)] at hown
          have hl2 : (A.l k).t.length + 1 = ((A.l k).store q v).t.length := by simp [Ln.store]
          rw [hl2] at hown
          obtain ⟨g', cap', rfl, hb', hrow'⟩ := rrow_new hown (fun h => unhide HN1 (hnil.1 h).1)
          rw [← hl2]
          have HV6 : Hid (Keeps (fun _ => False) X w6) := Keeps.grown (unhide HV) hgr (fun k hk => by
            right
            rcases (unhide OWp).2 with ⟨h1, _⟩ | ⟨g2, _, _, h1, h2, _⟩
            · rw [h1] at hk; simp [Value.ownBlock] at hk
            · rw [h1] at hk; simp [Value.ownBlock] at hk; omega)
          have HROW := hide hrow'
          have HB' := hide hb'
          have y6 := (unhide HV6).cellOf (unhide Y1) id
          have l6 := (unhide HV6).cellOf (unhide XL) id
          have f6 : w6.frozen? ⟨gl, k, none⟩ = false := by rw [World.frozen?_of_block (w := X) ((unhide HV6).block gl (World.block_lt_of_cell? X _ (unhide XL)) id)]; exact unhide XF
          refine hK.out _ _ y6 (fun hNew => ?_)
          clear hown hgr hnil hrow' hb' hi hz0 hz1 hz2 i0 hl2 HV OWp NBq
          clear hK K hHeld
          have hHeld := hNew
          clear hNew
          try simp only [Act.put, List.setIfInBounds_toArray]
          refine take_at 19 45 (v := ?_) rfl rfl (by kernel_rfl) (by kernel_rfl) (by kernel_rfl) (Or.inl ⟨by rfl, ?_⟩) hHeld ?_
          rotate_left
          · intro w hSw; go_simp; with_reducible rfl
          simp only [Act.put, List.setIfInBounds_toArray, List.set_cons_zero, List.set_cons_succ]
          refine wpAnyH_ready (rs := [20]) (by kernel_rfl) (by simp) ?_
          refine AllReadyH.cons rfl (fun K hK => ?_) AllReadyH.nil
          go_simp
          refine hK.out _ _ ((World.cell?_setCell_far _ _ _ _ (unhide HGB)).trans y6) (fun hNew => ?_)
          clear hK K hHeld hNew
          refine wpAnyH_done (by kernel_rfl) ?_ _
          refine NoPanic.normal ?_
          clear y6 l6 f6
          have END := hide (rstore_end (unhide HR1) k q v hk (unhide HV6) g' cap' (unhide HB') (unhide HROW))
          clear HV6 HROW HB'
          go_wp2_with fail
          go_ret
          obtain ⟨F', ads', caps', r1, r2, r3⟩ := unhide END
          rw [unhide HSF]
          try rw [he]
          exact ⟨rfl, F', ads', caps', r1, (unhide HK1).trans' r2, fun x hx => (r3 x hx).imp id fun h => Nat.le_trans (unhide HK1).size h⟩
      · skip
        go_simp
        refine hK.out _ _ (cell_under hHeld _) (fun hNew => ?_)
        have NBq : Hid ((V.alloc (.cells #[.int .i64 (q : Int), .int .u64 v, .bool false, .bool false, .bool false, .bool false, .bool false, .bool false, .bool false, .bool false] 95)).heap[V.heap.size]? = some (.cells (newD q v) 95 (0, 0))) := heap_new V _
        have HV1 : Hid (Keeps (fun _ => False) X (V.alloc (.cells #[.int .i64 (q : Int), .int .u64 v, .bool false, .bool false, .bool false, .bool false, .bool false, .bool false, .bool false, .bool false] 95))) := (unhide HV).alloc _
        clear HV
        have HV := HV1
        clear HV1
        try (have OW1 := hide ((unhide OWa).alloc (.cells #[.int .i64 (q : Int), .int .u64 v, .bool false, .bool false, .bool false, .bool false, .bool false, .bool false, .bool false, .bool false] 95)); clear OWa; have OWa := OW1; clear OW1)
        try (have OW1 := hide ((unhide OWp).alloc (.cells #[.int .i64 (q : Int), .int .u64 v, .bool false, .bool false, .bool false, .bool false, .bool false, .bool false, .bool false, .bool false] 95)); clear OWp; have OWp := OW1; clear OW1)
        obtain ⟨nb, hnb⟩ : ∃ nb, nb = V.heap.size := ⟨_, rfl⟩
        rw [← hnb] at NBq ⊢
        clear hnb
        obtain ⟨V, hV⟩ : ∃ V' : World, V' = V.alloc (.cells #[.int .i64 (q : Int), .int .u64 v, .bool false, .bool false, .bool false, .bool false, .bool false, .bool false, .bool false, .bool false] 95) := ⟨_, rfl⟩
        rw [← hV] at NBq HV hNew ⊢
        try rw [← hV] at OWa
        try rw [← hV] at OWp
        clear hV
        clear hK K hHeld
        have hHeld := hNew
        clear hNew
        try simp only [Act.put, List.setIfInBounds_toArray]
        refine wpAnyH_ready (rs := [12]) (by kernel_rfl) (by simp) ?_
        refine AllReadyH.cons rfl (fun K hK => ?_) AllReadyH.nil
        have xl := (unhide HV).cellOf (unhide XL) id
        go_simp
        clear xl
        refine hK.out _ _ hHeld (fun hNew => ?_)
        clear hK K hHeld
        have hHeld := hNew
        clear hNew
        try simp only [Act.put, List.setIfInBounds_toArray]
        refine wpAnyH_ready (rs := [13]) (by kernel_rfl) (by simp) ?_
        refine AllReadyH.cons rfl (fun K hK => ?_) AllReadyH.nil
        refine (if_pos (by rfl)).mpr ?_
        obtain ⟨i0, hi, hz0, hz1, hz2⟩ := info_parts info_done
        refine wp_append_src (.tmp 31) (.tmp 38) 84 rfl X.heap.size 95 i0 _ 10 24 Try.underlying84 hi hz0 hz1 hz2 rfl (by decide) (.slice (some ⟨E, 0, none⟩) 0 0) 0 [] rfl (unhide OWa) ao (A.l k).t.length (caps k) (doneV (A.l k)) rfl (unhide SNO) (doneV_len _) (unhide SCE V (unhide HV)) (doneV_one _) (by unfold maxLen; omega) (by omega) (unhide HV).size ?_
        intro v1 w4 hown hgr hnil
        rw [Nat.zero_add, List.nil_append] at hown
        have OWp := hide hown
        have HN1 : Hid (v1 ≠ .slice none 0 0) := hnil (by simp)
        have HV1 : Hid (Keeps (fun _ => False) X w4) := Keeps.grown (unhide HV) hgr (fun k hk => by simp [Value.ownBlock] at hk; right; have := unhide HEX; omega)
        try (have NB1 := hide ((hgr.block nb (lt_of_block (unhide NBq)) (fun e => own_ne (unhide OWa) (unhide NBq) (by simpa [Value.ownBlock] using e))).trans (unhide NBq)); clear NBq; have NBq := NB1; clear NB1)
        refine hK.out _ _ ((unhide HV1).cellOf (unhide Y1) id) (fun hNew => ?_)
        clear HV OWa hown hgr hnil hi hz0 hz1 hz2 i0
        have HV := HV1
        clear HV1
        obtain ⟨V, hV⟩ : ∃ V' : World, V' = w4 := ⟨_, rfl⟩
        rw [← hV] at OWp HV hNew ⊢
        try rw [← hV] at NBq
        clear hV
        clear hK K hHeld
        have hHeld := hNew
        clear hNew
        try simp only [Act.put, List.setIfInBounds_toArray]
        refine wpAnyH_ready (rs := [18]) (by kernel_rfl) (by simp) ?_
        refine AllReadyH.cons rfl (fun K hK => ?_) AllReadyH.nil
        refine (if_pos (by rfl)).mpr ?_
        obtain ⟨i0, hi, hz0, hz1, hz2⟩ := info_parts info_done
        refine wp_append_own _ (.tmp 39) (.tmp 43) 84 rfl X.heap.size 95 i0 _ 10 24 Try.underlying84 hi hz0 hz1 hz2 rfl (by decide) v1 (A.l k).t.length (doneV (A.l k)) rfl (unhide OWp) ⟨nb, 0, none⟩ 1 1 (newD q v).toList rfl rfl (fun j u hj => by rw [Addr.add_mid, Nat.zero_add, cell_of_block (unhide NBq)]; rw [Array.getElem?_toList] at hj; exact hj) (by intro u hu; simp [newD] at hu; rcases hu with rfl | rfl | rfl <;> rfl) (by unfold maxLen; omega) (by omega) (unhide HV).size ?_
        intro v2 w6 hown hgr hnil
        rw [← doneV_store (A.l k) q v (unhide HFL)] at hown
        have hl2 : (A.l k).t.length + 1 = ((A.l k).store q v).t.length := by simp [Ln.store]
        rw [hl2] at hown
        obtain ⟨g', cap', rfl, hb', hrow'⟩ := rrow_new hown (fun h => unhide HN1 (hnil.1 h).1)
        rw [← hl2]
        have HV6 : Hid (Keeps (fun _ => False) X w6) := Keeps.grown (unhide HV) hgr (fun k hk => by
          right
          rcases (unhide OWp).2 with ⟨h1, _⟩ | ⟨g2, _, _, h1, h2, _⟩
          · rw [h1] at hk; simp [Value.ownBlock] at hk
          · rw [h1] at hk; simp [Value.ownBlock] at hk; omega)
        have HROW := hide hrow'
        have HB' := hide hb'
        have y6 := (unhide HV6).cellOf (unhide Y1) id
        have l6 := (unhide HV6).cellOf (unhide XL) id
        have f6 : w6.frozen? ⟨gl, k, none⟩ = false := by rw [World.frozen?_of_block (w := X) ((unhide HV6).block gl (World.block_lt_of_cell? X _ (unhide XL)) id)]; exact unhide XF
        refine hK.out _ _ y6 (fun hNew => ?_)
        clear hown hgr hnil hrow' hb' hi hz0 hz1 hz2 i0 hl2 HV OWp NBq
        clear hK K hHeld
        have hHeld := hNew
        clear hNew
        try simp only [Act.put, List.setIfInBounds_toArray]
        refine take_at 19 45 (v := ?_) rfl rfl (by kernel_rfl) (by kernel_rfl) (by kernel_rfl) (Or.inl ⟨by rfl, ?_⟩) hHeld ?_
        rotate_left
        · intro w hSw; go_simp; with_reducible rfl
        simp only [Act.put, List.setIfInBounds_toArray, List.set_cons_zero, List.set_cons_succ]
        refine wpAnyH_ready (rs := [20]) (by kernel_rfl) (by simp) ?_
        refine AllReadyH.cons rfl (fun K hK => ?_) AllReadyH.nil
        go_simp
        refine hK.out _ _ ((World.cell?_setCell_far _ _ _ _ (unhide HGB)).trans y6) (fun hNew => ?_)
        clear hK K hHeld hNew
        refine wpAnyH_done (by kernel_rfl) ?_ _
        refine NoPanic.normal ?_
        clear y6 l6 f6
        have END := hide (rstore_end (unhide HR1) k q v hk (unhide HV6) g' cap' (unhide HB') (unhide HROW))
        clear HV6 HROW HB'
        go_wp2_with fail
        go_ret
        obtain ⟨F', ads', caps', r1, r2, r3⟩ := unhide END
        rw [unhide HSF]
        try rw [he]
        exact ⟨rfl, F', ads', caps', r1, (unhide HK1).trans' r2, fun x hx => (r3 x hx).imp id fun h => Nat.le_trans (unhide HK1).size h⟩
    · skip
      have xl := (unhide HV).cellOf (unhide XL) id
      go_simp
      clear xl
      refine hK.out _ _ hHeld (fun hNew => ?_)
      clear hK K hHeld
      have hHeld := hNew
      clear hNew
      try simp only [Act.put, List.setIfInBounds_toArray]
      refine wpAnyH_ready (rs := [5, 17]) (by kernel_rfl) (by simp) ?_
      refine AllReadyH.cons rfl (fun K hK => ?_) (AllReadyH.cons rfl (fun K hK => ?_) AllReadyH.nil)
      · skip
        go_simp
        refine hK.out _ _ (cell_under hHeld _) (fun hNew => ?_)
        have OWa : Hid ((V.alloc (.cells #[] 95)).ownsRow X.heap.size 95 10 (.slice (some ⟨V.heap.size, 0, none⟩) 0 0) 0 []) := World.ownsRow_lit (base := X.heap.size) (e := 95) (size := 10) V #[] 0 (unhide HV).size (by decide) rfl
        have HV1 : Hid (Keeps (fun _ => False) X (V.alloc (.cells #[] 95))) := (unhide HV).alloc _
        clear HV
        have HV := HV1
        clear HV1
        try (have NB1 := hide ((Below.heap_alloc V (.cells #[] 95) nb (lt_of_block (unhide NBq))).trans (unhide NBq)); clear NBq; have NBq := NB1; clear NB1)
        have HEX : Hid (X.heap.size ≤ V.heap.size) := by
          have h1 : X.heap.size ≤ V.heap.size := by have := (unhide OWa).2; rcases this with ⟨h', _⟩ | ⟨g', _, _, h', h2, _⟩; simp at h'; simp at h'; obtain ⟨rfl, _⟩ := h'; exact h2
          exact h1
        obtain ⟨E, hE⟩ : ∃ E, E = V.heap.size := ⟨_, rfl⟩
        rw [← hE] at OWa HEX ⊢
        clear hE
        obtain ⟨V, hV⟩ : ∃ V' : World, V' = V.alloc (.cells #[] 95) := ⟨_, rfl⟩
        rw [← hV] at OWa HV hNew ⊢
        try rw [← hV] at NBq
        clear hV
        clear hK K hHeld
        have hHeld := hNew
        clear hNew
        try simp only [Act.put, List.setIfInBounds_toArray]
        refine wpAnyH_ready (rs := [13, 17]) (by kernel_rfl) (by simp) ?_
        refine AllReadyH.cons rfl (fun K hK => ?_) (AllReadyH.cons rfl (fun K hK => ?_) AllReadyH.nil)
        · skip
          refine (if_pos (by rfl)).mpr ?_
          obtain ⟨i0, hi, hz0, hz1, hz2⟩ := info_parts info_done
          refine wp_append_src (.tmp 31) (.tmp 38) 84 rfl X.heap.size 95 i0 _ 10 24 Try.underlying84 hi hz0 hz1 hz2 rfl (by decide) (.slice (some ⟨E, 0, none⟩) 0 0) 0 [] rfl (unhide OWa) ao (A.l k).t.length (caps k) (doneV (A.l k)) rfl (unhide SNO) (doneV_len _) (unhide SCE V (unhide HV)) (doneV_one _) (by unfold maxLen; omega) (by omega) (unhide HV).size ?_
          intro v1 w4 hown hgr hnil
          rw [Nat.zero_add, List.nil_append] at hown
          have OWp := hide hown
          have HN1 : Hid (v1 ≠ .slice none 0 0) := hnil (by simp)
          have HV1 : Hid (Keeps (fun _ => False) X w4) := Keeps.grown (unhide HV) hgr (fun k hk => by simp [Value.ownBlock] at hk; right; have := unhide HEX; omega)
          try (have NB1 := hide ((hgr.block nb (lt_of_block (unhide NBq)) (fun e => own_ne (unhide OWa) (unhide NBq) (by simpa [Value.ownBlock] using e))).trans (unhide NBq)); clear NBq; have NBq := NB1; clear NB1)
          refine hK.out _ _ ((unhide HV1).cellOf (unhide Y1) id) (fun hNew => ?_)
          clear HV OWa hown hgr hnil hi hz0 hz1 hz2 i0
          have HV := HV1
          clear HV1
          obtain ⟨V, hV⟩ : ∃ V' : World, V' = w4 := ⟨_, rfl⟩
          rw [← hV] at OWp HV hNew ⊢
          try rw [← hV] at NBq
          clear hV
          clear hK K hHeld
          have hHeld := hNew
          clear hNew
          try simp only [Act.put, List.setIfInBounds_toArray]
          refine wpAnyH_ready (rs := [17]) (by kernel_rfl) (by simp) ?_
          refine AllReadyH.cons rfl (fun K hK => ?_) AllReadyH.nil
          go_simp
          refine hK.out _ _ (cell_under hHeld _) (fun hNew => ?_)
          have NBq : Hid ((V.alloc (.cells #[.int .i64 (q : Int), .int .u64 v, .bool false, .bool false, .bool false, .bool false, .bool false, .bool false, .bool false, .bool false] 95)).heap[V.heap.size]? = some (.cells (newD q v) 95 (0, 0))) := heap_new V _
          have HV1 : Hid (Keeps (fun _ => False) X (V.alloc (.cells #[.int .i64 (q : Int), .int .u64 v, .bool false, .bool false, .bool false, .bool false, .bool false, .bool false, .bool false, .bool false] 95))) := (unhide HV).alloc _
          clear HV
          have HV := HV1
          clear HV1
          try (have OW1 := hide ((unhide OWa).alloc (.cells #[.int .i64 (q : Int), .int .u64 v, .bool false, .bool false, .bool false, .bool false, .bool false, .bool false, .bool false, .bool false] 95)); clear OWa; have OWa := OW1; clear OW1)
          try (have OW1 := hide ((unhide OWp).alloc (.cells #[.int .i64 (q : Int), .int .u64 v, .bool false, .bool false, .bool false, .bool false, .bool false, .bool false, .bool false, .bool false] 95)); clear OWp; have OWp := OW1; clear OW1)
          obtain ⟨nb, hnb⟩ : ∃ nb, nb = V.heap.size := ⟨_, rfl⟩
          rw [← hnb] at NBq ⊢
          clear hnb
          obtain ⟨V, hV⟩ : ∃ V' : World, V' = V.alloc (.cells #[.int .i64 (q : Int), .int .u64 v, .bool false, .bool false, .bool false, .bool false, .bool false, .bool false, .bool false, .bool false] 95) := ⟨_, rfl⟩
          rw [← hV] at NBq HV hNew ⊢
          try rw [← hV] at OWa
          try rw [← hV] at OWp
          clear hV
          clear hK K hHeld
          have hHeld := hNew
          clear hNew
          try simp only [Act.put, List.setIfInBounds_toArray]
          refine wpAnyH_ready (rs := [18]) (by kernel_rfl) (by simp) ?_
          refine AllReadyH.cons rfl (fun K hK => ?_) AllReadyH.nil
          refine (if_pos (by rfl)).mpr ?_
          obtain ⟨i0, hi, hz0, hz1, hz2⟩ := info_parts info_done
          refine wp_append_own _ (.tmp 39) (.tmp 43) 84 rfl X.heap.size 95 i0 _ 10 24 Try.underlying84 hi hz0 hz1 hz2 rfl (by decide) v1 (A.l k).t.length (doneV (A.l k)) rfl (unhide OWp) ⟨nb, 0, none⟩ 1 1 (newD q v).toList rfl rfl (fun j u hj => by rw [Addr.add_mid, Nat.zero_add, cell_of_block (unhide NBq)]; rw [Array.getElem?_toList] at hj; exact hj) (by intro u hu; simp [newD] at hu; rcases hu with rfl | rfl | rfl <;> rfl) (by unfold maxLen; omega) (by omega) (unhide HV).size ?_
          intro v2 w6 hown hgr hnil
          rw [← doneV_store (A.l k) q v (unhide HFL)] at hown
          have hl2 : (A.l k).t.length + 1 = ((A.l k).store q v).t.length := by simp [Ln.store]
          rw [hl2] at hown
          obtain ⟨g', cap', rfl, hb', hrow'⟩ := rrow_new hown (fun h => unhide HN1 (hnil.1 h).1)
          rw [← hl2]
          have HV6 : Hid (Keeps (fun _ => False) X w6) := Keeps.grown (unhide HV) hgr (fun k hk => by
            right
            rcases (unhide OWp).2 with ⟨h1, _⟩ | ⟨g2, _, _, h1, h2, _⟩
            · rw [h1] at hk; simp [Value.ownBlock] at hk
            · rw [h1] at hk; simp [Value.ownBlock] at hk; omega)
          have HROW := hide hrow'
          have HB' := hide hb'
          have y6 := (unhide HV6).cellOf (unhide Y1) id
          have l6 := (unhide HV6).cellOf (unhide XL) id
          have f6 : w6.frozen? ⟨gl, k, none⟩ = false := by rw [World.frozen?_of_block (w := X) ((unhide HV6).block gl (World.block_lt_of_cell? X _ (unhide XL)) id)]; exact unhide XF
          refine hK.out _ _ y6 (fun hNew => ?_)
          clear hown hgr hnil hrow' hb' hi hz0 hz1 hz2 i0 hl2 HV OWp NBq
          clear hK K hHeld
          have hHeld := hNew
          clear hNew
          try simp only [Act.put, List.setIfInBounds_toArray]
          refine take_at 19 45 (v := ?_) rfl rfl (by kernel_rfl) (by kernel_rfl) (by kernel_rfl) (Or.inl ⟨by rfl, ?_⟩) hHeld ?_
          rotate_left
          · intro w hSw; go_simp; with_reducible rfl
          simp only [Act.put, List.setIfInBounds_toArray, List.set_cons_zero, List.set_cons_succ]
          refine wpAnyH_ready (rs := [20]) (by kernel_rfl) (by simp) ?_
          refine AllReadyH.cons rfl (fun K hK => ?_) AllReadyH.nil
          go_simp
          refine hK.out _ _ ((World.cell?_setCell_far _ _ _ _ (unhide HGB)).trans y6) (fun hNew => ?_)
          clear hK K hHeld hNew
          refine wpAnyH_done (by kernel_rfl) ?_ _
          refine NoPanic.normal ?_
          clear y6 l6 f6
          have END := hide (rstore_end (unhide HR1) k q v hk (unhide HV6) g' cap' (unhide HB') (unhide HROW))
          clear HV6 HROW HB'
          go_wp2_with fail
          go_ret
          obtain ⟨F', ads', caps', r1, r2, r3⟩ := unhide END
          rw [unhide HSF]
          try rw [he]
          exact ⟨rfl, F', ads', caps', r1, (unhide HK1).trans' r2, fun x hx => (r3 x hx).imp id fun h => Nat.le_trans (unhide HK1).size h⟩
        · skip
          go_simp
          refine hK.out _ _ (cell_under hHeld _) (fun hNew => ?_)
          have NBq : Hid ((V.alloc (.cells #[.int .i64 (q : Int), .int .u64 v, .bool false, .bool false, .bool false, .bool false, .bool false, .bool false, .bool false, .bool false] 95)).heap[V.heap.size]? = some (.cells (newD q v) 95 (0, 0))) := heap_new V _
          have HV1 : Hid (Keeps (fun _ => False) X (V.alloc (.cells #[.int .i64 (q : Int), .int .u64 v, .bool false, .bool false, .bool false, .bool false, .bool false, .bool false, .bool false, .bool false] 95))) := (unhide HV).alloc _
          clear HV
          have HV := HV1
          clear HV1
          try (have OW1 := hide ((unhide OWa).alloc (.cells #[.int .i64 (q : Int), .int .u64 v, .bool false, .bool false, .bool false, .bool false, .bool false, .bool false, .bool false, .bool false] 95)); clear OWa; have OWa := OW1; clear OW1)
          try (have OW1 := hide ((unhide OWp).alloc (.cells #[.int .i64 (q : Int), .int .u64 v, .bool false, .bool false, .bool false, .bool false, .bool false, .bool false, .bool false, .bool false] 95)); clear OWp; have OWp := OW1; clear OW1)
          obtain ⟨nb, hnb⟩ : ∃ nb, nb = V.heap.size := ⟨_, rfl⟩
          rw [← hnb] at NBq ⊢
          clear hnb
          obtain ⟨V, hV⟩ : ∃ V' : World, V' = V.alloc (.cells #[.int .i64 (q : Int), .int .u64 v, .bool false, .bool false, .bool false, .bool false, .bool false, .bool false, .bool false, .bool false] 95) := ⟨_, rfl⟩
          rw [← hV] at NBq HV hNew ⊢
          try rw [← hV] at OWa
          try rw [← hV] at OWp
          clear hV
          clear hK K hHeld
          have hHeld := hNew
          clear hNew
          try simp only [Act.put, List.setIfInBounds_toArray]
          refine wpAnyH_ready (rs := [13]) (by kernel_rfl) (by simp) ?_
          refine AllReadyH.cons rfl (fun K hK => ?_) AllReadyH.nil
          refine (if_pos (by rfl)).mpr ?_
          obtain ⟨i0, hi, hz0, hz1, hz2⟩ := info_parts info_done
          refine wp_append_src (.tmp 31) (.tmp 38) 84 rfl X.heap.size 95 i0 _ 10 24 Try.underlying84 hi hz0 hz1 hz2 rfl (by decide) (.slice (some ⟨E, 0, none⟩) 0 0) 0 [] rfl (unhide OWa) ao (A.l k).t.length (caps k) (doneV (A.l k)) rfl (unhide SNO) (doneV_len _) (unhide SCE V (unhide HV)) (doneV_one _) (by unfold maxLen; omega) (by omega) (unhide HV).size ?_
          intro v1 w4 hown hgr hnil
          rw [Nat.zero_add, List.nil_append] at hown
          have OWp := hide hown
          have HN1 : Hid (v1 ≠ .slice none 0 0) := hnil (by simp)
          have HV1 : Hid (Keeps (fun _ => False) X w4) := Keeps.grown (unhide HV) hgr (fun k hk => by simp [Value.ownBlock] at hk; right; have := unhide HEX; omega)
          try (have NB1 := hide ((hgr.block nb (lt_of_block (unhide NBq)) (fun e => own_ne (unhide OWa) (unhide NBq) (by simpa [Value.ownBlock] using e))).trans (unhide NBq)); clear NBq; have NBq := NB1; clear NB1)
          refine hK.out _ _ ((unhide HV1).cellOf (unhide Y1) id) (fun hNew => ?_)
          clear HV OWa hown hgr hnil hi hz0 hz1 hz2 i0
          have HV := HV1
          clear HV1
          obtain ⟨V, hV⟩ : ∃ V' : World, V' = w4 := ⟨_, rfl⟩
          rw [← hV] at OWp HV hNew ⊢
          try rw [← hV] at NBq
          clear hV
          clear hK K hHeld
          have hHeld := hNew
          clear hNew
          try simp only [Act.put, List.setIfInBounds_toArray]
          refine wpAnyH_ready (rs := [18]) (by kernel_rfl) (by simp) ?_
          refine AllReadyH.cons rfl (fun K hK => ?_) AllReadyH.nil
          refine (if_pos (by rfl)).mpr ?_
          obtain ⟨i0, hi, hz0, hz1, hz2⟩ := info_parts info_done
          refine wp_append_own _ (.tmp 39) (.tmp 43) 84 rfl X.heap.size 95 i0 _ 10 24 Try.underlying84 hi hz0 hz1 hz2 rfl (by decide) v1 (A.l k).t.length (doneV (A.l k)) rfl (unhide OWp) ⟨nb, 0, none⟩ 1 1 (newD q v).toList rfl rfl (fun j u hj => by rw [Addr.add_mid, Nat.zero_add, cell_of_block (unhide NBq)]; rw [Array.getElem?_toList] at hj; exact hj) (by intro u hu; simp [newD] at hu; rcases hu with rfl | rfl | rfl <;> rfl) (by unfold maxLen; omega) (by omega) (unhide HV).size ?_
          intro v2 w6 hown hgr hnil
          rw [← doneV_store (A.l k) q v (unhide HFL)] at hown
          have hl2 : (A.l k).t.length + 1 = ((A.l k).store q v).t.length := by simp [Ln.store]
          rw [hl2] at hown
          obtain ⟨g', cap', rfl, hb', hrow'⟩ := rrow_new hown (fun h => unhide HN1 (hnil.1 h).1)
          rw [← hl2]
          have HV6 : Hid (Keeps (fun _ => False) X w6) := Keeps.grown (unhide HV) hgr (fun k hk => by
            right
            rcases (unhide OWp).2 with ⟨h1, _⟩ | ⟨g2, _, _, h1, h2, _⟩
            · rw [h1] at hk; simp [Value.ownBlock] at hk
            · rw [h1] at hk; simp [Value.ownBlock] at hk; omega)
          have HROW := hide hrow'
          have HB' := hide hb'
          have y6 := (unhide HV6).cellOf (unhide Y1) id
          have l6 := (unhide HV6).cellOf (unhide XL) id
          have f6 : w6.frozen? ⟨gl, k, none⟩ = false := by rw [World.frozen?_of_block (w := X) ((unhide HV6).block gl (World.block_lt_of_cell? X _ (unhide XL)) id)]; exact unhide XF
          refine hK.out _ _ y6 (fun hNew => ?_)
          clear hown hgr hnil hrow' hb' hi hz0 hz1 hz2 i0 hl2 HV OWp NBq
          clear hK K hHeld
          have hHeld := hNew
          clear hNew
          try simp only [Act.put, List.setIfInBounds_toArray]
          refine take_at 19 45 (v := ?_) rfl rfl (by kernel_rfl) (by kernel_rfl) (by kernel_rfl) (Or.inl ⟨by rfl, ?_⟩) hHeld ?_
          rotate_left
          · intro w hSw; go_simp; with_reducible rfl
          simp only [Act.put, List.setIfInBounds_toArray, List.set_cons_zero, List.set_cons_succ]
          refine wpAnyH_ready (rs := [20]) (by kernel_rfl) (by simp) ?_
          refine AllReadyH.cons rfl (fun K hK => ?_) AllReadyH.nil
          go_simp
          refine hK.out _ _ ((World.cell?_setCell_far _ _ _ _ (unhide HGB)).trans y6) (fun hNew => ?_)
          clear hK K hHeld hNew
          refine wpAnyH_done (by kernel_rfl) ?_ _
          refine NoPanic.normal ?_
          clear y6 l6 f6
          have END := hide (rstore_end (unhide HR1) k q v hk (unhide HV6) g' cap' (unhide HB') (unhide HROW))
          clear HV6 HROW HB'
          go_wp2_with fail
          go_ret
          obtain ⟨F', ads', caps', r1, r2, r3⟩ := unhide END
          rw [unhide HSF]
          try rw [he]
          exact ⟨rfl, F', ads', caps', r1, (unhide HK1).trans' r2, fun x hx => (r3 x hx).imp id fun h => Nat.le_trans (unhide HK1).size h⟩
      · skip
        go_simp
        refine hK.out _ _ (cell_under hHeld _) (fun hNew => ?_)
        have NBq : Hid ((V.alloc (.cells #[.int .i64 (q : Int), .int .u64 v, .bool false, .bool false, .bool false, .bool false, .bool false, .bool false, .bool false, .bool false] 95)).heap[V.heap.size]? = some (.cells (newD q v) 95 (0, 0))) := heap_new V _
        have HV1 : Hid (Keeps (fun _ => False) X (V.alloc (.cells #[.int .i64 (q : Int), .int .u64 v, .bool false, .bool false, .bool false, .bool false, .bool false, .bool false, .bool false, .bool false] 95))) := (unhide HV).alloc _
        clear HV
        have HV := HV1
        clear HV1
        try (have OW1 := hide ((unhide OWa).alloc (.cells #[.int .i64 (q : Int), .int .u64 v, .bool false, .bool false, .bool false, .bool false, .bool false, .bool false, .bool false, .bool false] 95)); clear OWa; have OWa := OW1; clear OW1)
        try (have OW1 := hide ((unhide OWp).alloc (.cells #[.int .i64 (q : Int), .int .u64 v, .bool false, .bool false, .bool false, .bool false, .bool false, .bool false, .bool false, .bool false] 95)); clear OWp; have OWp := OW1; clear OW1)
        obtain ⟨nb, hnb⟩ : ∃ nb, nb = V.heap.size := ⟨_, rfl⟩
        rw [← hnb] at NBq ⊢
        clear hnb
        obtain ⟨V, hV⟩ : ∃ V' : World, V' = V.alloc (.cells #[.int .i64 (q : Int), .int .u64 v, .bool false, .bool false, .bool false, .bool false, .bool false, .bool false, .bool false, .bool false] 95) := ⟨_, rfl⟩
        rw [← hV] at NBq HV hNew ⊢
        try rw [← hV] at OWa
        try rw [← hV] at OWp
        clear hV
        clear hK K hHeld
        have hHeld := hNew
        clear hNew
        try simp only [Act.put, List.setIfInBounds_toArray]
        refine wpAnyH_ready (rs := [5]) (by kernel_rfl) (by simp) ?_
        refine AllReadyH.cons rfl (fun K hK => ?_) AllReadyH.nil
        go_simp
        refine hK.out _ _ (cell_under hHeld _) (fun hNew => ?_)
        have OWa : Hid ((V.alloc (.cells #[] 95)).ownsRow X.heap.size 95 10 (.slice (some ⟨V.heap.size, 0, none⟩) 0 0) 0 []) := World.ownsRow_lit (base := X.heap.size) (e := 95) (size := 10) V #[] 0 (unhide HV).size (by decide) rfl
        have HV1 : Hid (Keeps (fun _ => False) X (V.alloc (.cells #[] 95))) := (unhide HV).alloc _
        clear HV
        have HV := HV1
        clear HV1
        try (have NB1 := hide ((Below.heap_alloc V (.cells #[] 95) nb (lt_of_block (unhide NBq))).trans (unhide NBq)); clear NBq; have NBq := NB1; clear NB1)
        have HEX : Hid (X.heap.size ≤ V.heap.size) := by
          have h1 : X.heap.size ≤ V.heap.size := by have := (unhide OWa).2; rcases this with ⟨h', _⟩ | ⟨g', _, _, h', h2, _⟩; simp at h'; simp at h'; obtain ⟨rfl, _⟩ := h'; exact h2
          exact h1
        obtain ⟨E, hE⟩ : ∃ E, E = V.heap.size := ⟨_, rfl⟩
        rw [← hE] at OWa HEX ⊢
        clear hE
        obtain ⟨V, hV⟩ : ∃ V' : World, V' = V.alloc (.cells #[] 95) := ⟨_, rfl⟩
        rw [← hV] at OWa HV hNew ⊢
        try rw [← hV] at NBq
        clear hV
        clear hK K hHeld
        have hHeld := hNew
        clear hNew
        try simp only [Act.put, List.setIfInBounds_toArray]
        refine wpAnyH_ready (rs := [13]) (by kernel_rfl) (by simp) ?_
        refine AllReadyH.cons rfl (fun K hK => ?_) AllReadyH.nil
        refine (if_pos (by rfl)).mpr ?_
        obtain ⟨i0, hi, hz0, hz1, hz2⟩ := info_parts info_done
        refine wp_append_src (.tmp 31) (.tmp 38) 84 rfl X.heap.size 95 i0 _ 10 24 Try.underlying84 hi hz0 hz1 hz2 rfl (by decide) (.slice (some ⟨E, 0, none⟩) 0 0) 0 [] rfl (unhide OWa) ao (A.l k).t.length (caps k) (doneV (A.l k)) rfl (unhide SNO) (doneV_len _) (unhide SCE V (unhide HV)) (doneV_one _) (by unfold maxLen; omega) (by omega) (unhide HV).size ?_
        intro v1 w4 hown hgr hnil
        rw [Nat.zero_add, List.nil_append] at hown
        have OWp := hide hown
        have HN1 : Hid (v1 ≠ .slice none 0 0) := hnil (by simp)
        have HV1 : Hid (Keeps (fun _ => False) X w4) := Keeps.grown (unhide HV) hgr (fun k hk => by simp [Value.ownBlock] at hk; right; have := unhide HEX; omega)
        try (have NB1 := hide ((hgr.block nb (lt_of_block (unhide NBq)) (fun e => own_ne (unhide OWa) (unhide NBq) (by simpa [Value.ownBlock] using e))).trans (unhide NBq)); clear NBq; have NBq := NB1; clear NB1)
        refine hK.out _ _ ((unhide HV1).cellOf (unhide Y1) id) (fun hNew => ?_)
        clear HV OWa hown hgr hnil hi hz0 hz1 hz2 i0
        have HV := HV1
        clear HV1
        obtain ⟨V, hV⟩ : ∃ V' : World, V' = w4 := ⟨_, rfl⟩
        rw [← hV] at OWp HV hNew ⊢
        try rw [← hV] at NBq
        clear hV
        clear hK K hHeld
        have hHeld := hNew
        clear hNew
        try simp only [Act.put, List.setIfInBounds_toArray]
        refine wpAnyH_ready (rs := [18]) (by kernel_rfl) (by simp) ?_
        refine AllReadyH.cons rfl (fun K hK => ?_) AllReadyH.nil
        refine (if_pos (by rfl)).mpr ?_
        obtain ⟨i0, hi, hz0, hz1, hz2⟩ := info_parts info_done
        refine wp_append_own _ (.tmp 39) (.tmp 43) 84 rfl X.heap.size 95 i0 _ 10 24 Try.underlying84 hi hz0 hz1 hz2 rfl (by decide) v1 (A.l k).t.length (doneV (A.l k)) rfl (unhide OWp) ⟨nb, 0, none⟩ 1 1 (newD q v).toList rfl rfl (fun j u hj => by rw [Addr.add_mid, Nat.zero_add, cell_of_block (unhide NBq)]; rw [Array.getElem?_toList] at hj; exact hj) (by intro u hu; simp [newD] at hu; rcases hu with rfl | rfl | rfl <;> rfl) (by unfold maxLen; omega) (by omega) (unhide HV).size ?_
        intro v2 w6 hown hgr hnil
        rw [← doneV_store (A.l k) q v (unhide HFL)] at hown
        have hl2 : (A.l k).t.length + 1 = ((A.l k).store q v).t.length := by simp [Ln.store]
        rw [hl2] at hown
        obtain ⟨g', cap', rfl, hb', hrow'⟩ := rrow_new hown (fun h => unhide HN1 (hnil.1 h).1)
        rw [← hl2]
        have HV6 : Hid (Keeps (fun _ => False) X w6) := Keeps.grown (unhide HV) hgr (fun k hk => by
          right
          rcases (unhide OWp).2 with ⟨h1, _⟩ | ⟨g2, _, _, h1, h2, _⟩
          · rw [h1] at hk; simp [Value.ownBlock] at hk
          · rw [h1] at hk; simp [Value.ownBlock] at hk; omega)
        have HROW := hide hrow'
        have HB' := hide hb'
        have y6 := (unhide HV6).cellOf (unhide Y1) id
        have l6 := (unhide HV6).cellOf (unhide XL) id
        have f6 : w6.frozen? ⟨gl, k, none⟩ = false := by rw [World.frozen?_of_block (w := X) ((unhide HV6).block gl (World.block_lt_of_cell? X _ (unhide XL)) id)]; exact unhide XF
        refine hK.out _ _ y6 (fun hNew => ?_)
        clear hown hgr hnil hrow' hb' hi hz0 hz1 hz2 i0 hl2 HV OWp NBq
        clear hK K hHeld
        have hHeld := hNew
        clear hNew
        try simp only [Act.put, List.setIfInBounds_toArray]
        refine take_at 19 45 (v := ?_) rfl rfl (by kernel_rfl) (by kernel_rfl) (by kernel_rfl) (Or.inl ⟨by rfl, ?_⟩) hHeld ?_
        rotate_left
        · intro w hSw; go_simp; with_reducible rfl
        simp only [Act.put, List.setIfInBounds_toArray, List.set_cons_zero, List.set_cons_succ]
        refine wpAnyH_ready (rs := [20]) (by kernel_rfl) (by simp) ?_
        refine AllReadyH.cons rfl (fun K hK => ?_) AllReadyH.nil
        go_simp
        refine hK.out _ _ ((World.cell?_setCell_far _ _ _ _ (unhide HGB)).trans y6) (fun hNew => ?_)
        clear hK K hHeld hNew
        refine wpAnyH_done (by kernel_rfl) ?_ _
        refine NoPanic.normal ?_
        clear y6 l6 f6
        have END := hide (rstore_end (unhide HR1) k q v hk (unhide HV6) g' cap' (unhide HB') (unhide HROW))
        clear HV6 HROW HB'
        go_wp2_with fail
        go_ret
        obtain ⟨F', ads', caps', r1, r2, r3⟩ := unhide END
        rw [unhide HSF]
        try rw [he]
        exact ⟨rfl, F', ads', caps', r1, (unhide HK1).trans' r2, fun x hx => (r3 x hx).imp id fun h => Nat.le_trans (unhide HK1).size h⟩
    · skip
      go_simp
      refine hK.out _ _ (cell_under hHeld _) (fun hNew => ?_)
      have NBq : Hid ((V.alloc (.cells #[.int .i64 (q : Int), .int .u64 v, .bool false, .bool false, .bool false, .bool false, .bool false, .bool false, .bool false, .bool false] 95)).heap[V.heap.size]? = some (.cells (newD q v) 95 (0, 0))) := heap_new V _
      have HV1 : Hid (Keeps (fun _ => False) X (V.alloc (.cells #[.int .i64 (q : Int), .int .u64 v, .bool false, .bool false, .bool false, .bool false, .bool false, .bool false, .bool false, .bool false] 95))) := (unhide HV).alloc _
      clear HV
      have HV := HV1
      clear HV1
      try (have OW1 := hide ((unhide OWa).alloc (.cells #[.int .i64 (q : Int), .int .u64 v, .bool false, .bool false, .bool false, .bool false, .bool false, .bool false, .bool false, .bool false] 95)); clear OWa; have OWa := OW1; clear OW1)
      try (have OW1 := hide ((unhide OWp).alloc (.cells #[.int .i64 (q : Int), .int .u64 v, .bool false, .bool false, .bool false, .bool false, .bool false, .bool false, .bool false, .bool false] 95)); clear OWp; have OWp := OW1; clear OW1)
      obtain ⟨nb, hnb⟩ : ∃ nb, nb = V.heap.size := ⟨_, rfl⟩
      rw [← hnb] at NBq ⊢
      clear hnb
      obtain ⟨V, hV⟩ : ∃ V' : World, V' = V.alloc (.cells #[.int .i64 (q : Int), .int .u64 v, .bool false, .bool false, .bool false, .bool false, .bool false, .bool false, .bool false, .bool false] 95) := ⟨_, rfl⟩
      rw [← hV] at NBq HV hNew ⊢
      try rw [← hV] at OWa
      try rw [← hV] at OWp
      clear hV
      clear hK K hHeld
      have hHeld := hNew
      clear hNew
      try simp only [Act.put, List.setIfInBounds_toArray]
      refine wpAnyH_ready (rs := [5, 12]) (by kernel_rfl) (by simp) ?_
      refine AllReadyH.cons rfl (fun K hK => ?_) (AllReadyH.cons rfl (fun K hK => ?_) AllReadyH.nil)
      · skip
        go_simp
        refine hK.out _ _ (cell_under hHeld _) (fun hNew => ?_)
        have OWa : Hid ((V.alloc (.cells #[] 95)).ownsRow X.heap.size 95 10 (.slice (some ⟨V.heap.size, 0, none⟩) 0 0) 0 []) := World.ownsRow_lit (base := X.heap.size) (e := 95) (size := 10) V #[] 0 (unhide HV).size (by decide) rfl
        have HV1 : Hid (Keeps (fun _ => False) X (V.alloc (.cells #[] 95))) := (unhide HV).alloc _
        clear HV
        have HV := HV1
        clear HV1
        try (have NB1 := hide ((Below.heap_alloc V (.cells #[] 95) nb (lt_of_block (unhide NBq))).trans (unhide NBq)); clear NBq; have NBq := NB1; clear NB1)
        have HEX : Hid (X.heap.size ≤ V.heap.size) := by
          have h1 : X.heap.size ≤ V.heap.size := by have := (unhide OWa).2; rcases this with ⟨h', _⟩ | ⟨g', _, _, h', h2, _⟩; simp at h'; simp at h'; obtain ⟨rfl, _⟩ := h'; exact h2
          exact h1
        obtain ⟨E, hE⟩ : ∃ E, E = V.heap.size := ⟨_, rfl⟩
        rw [← hE] at OWa HEX ⊢
        clear hE
        obtain ⟨V, hV⟩ : ∃ V' : World, V' = V.alloc (.cells #[] 95) := ⟨_, rfl⟩
        rw [← hV] at OWa HV hNew ⊢
        try rw [← hV] at NBq
        clear hV
        clear hK K hHeld
        have hHeld := hNew
        clear hNew
        try simp only [Act.put, List.setIfInBounds_toArray]
        refine wpAnyH_ready (rs := [12]) (by kernel_rfl) (by simp) ?_
        refine AllReadyH.cons rfl (fun K hK => ?_) AllReadyH.nil
        have xl := (unhide HV).cellOf (unhide XL) id
        go_simp
        clear xl
        refine hK.out _ _ hHeld (fun hNew => ?_)
        clear hK K hHeld
        have hHeld := hNew
        clear hNew
        try simp only [Act.put, List.setIfInBounds_toArray]
        refine wpAnyH_ready (rs := [13]) (by kernel_rfl) (by simp) ?_
        refine AllReadyH.cons rfl (fun K hK => ?_) AllReadyH.nil
        refine (if_pos (by rfl)).mpr ?_
        obtain ⟨i0, hi, hz0, hz1, hz2⟩ := info_parts info_done
        refine wp_append_src (.tmp 31) (.tmp 38) 84 rfl X.heap.size 95 i0 _ 10 24 Try.underlying84 hi hz0 hz1 hz2 rfl (by decide) (.slice (some ⟨E, 0, none⟩) 0 0) 0 [] rfl (unhide OWa) ao (A.l k).t.length (caps k) (doneV (A.l k)) rfl (unhide SNO) (doneV_len _) (unhide SCE V (unhide HV)) (doneV_one _) (by unfold maxLen; omega) (by omega) (unhide HV).size ?_
        intro v1 w4 hown hgr hnil
        rw [Nat.zero_add, List.nil_append] at hown
        have OWp := hide hown
        have HN1 : Hid (v1 ≠ .slice none 0 0) := hnil (by simp)
        have HV1 : Hid (Keeps (fun _ => False) X w4) := Keeps.grown (unhide HV) hgr (fun k hk => by simp [Value.ownBlock] at hk; right; have := unhide HEX; omega)
        try (have NB1 := hide ((hgr.block nb (lt_of_block (unhide NBq)) (fun e => own_ne (unhide OWa) (unhide NBq) (by simpa [Value.ownBlock] using e))).trans (unhide NBq)); clear NBq; have NBq := NB1; clear NB1)
        refine hK.out _ _ ((unhide HV1).cellOf (unhide Y1) id) (fun hNew => ?_)
        clear HV OWa hown hgr hnil hi hz0 hz1 hz2 i0
        have HV := HV1
        clear HV1
        obtain ⟨V, hV⟩ : ∃ V' : World, V' = w4 := ⟨_, rfl⟩
        rw [← hV] at OWp HV hNew ⊢
        try rw [← hV] at NBq
        clear hV
        clear hK K hHeld
        have hHeld := hNew
        clear hNew
        try simp only [Act.put, List.setIfInBounds_toArray]
        refine wpAnyH_ready (rs := [18]) (by kernel_rfl) (by simp) ?_
        refine AllReadyH.cons rfl (fun K hK => ?_) AllReadyH.nil
        refine (if_pos (by rfl)).mpr ?_
        obtain ⟨i0, hi, hz0, hz1, hz2⟩ := info_parts info_done
        refine wp_append_own _ (.tmp 39) (.tmp 43) 84 rfl X.heap.size 95 i0 _ 10 24 Try.underlying84 hi hz0 hz1 hz2 rfl (by decide) v1 (A.l k).t.length (doneV (A.l k)) rfl (unhide OWp) ⟨nb, 0, none⟩ 1 1 (newD q v).toList rfl rfl (fun j u hj => by rw [Addr.add_mid, Nat.zero_add, cell_of_block (unhide NBq)]; rw [Array.getElem?_toList] at hj; exact hj) (by intro u hu; simp [newD] at hu; rcases hu with rfl | rfl | rfl <;> rfl) (by unfold maxLen; omega) (by omega) (unhide HV).size ?_
        intro v2 w6 hown hgr hnil
        rw [← doneV_store (A.l k) q v (unhide HFL)] at hown
        have hl2 : (A.l k).t.length + 1 = ((A.l k).store q v).t.length := by simp [Ln.store]
        rw [hl2] at hown
        obtain ⟨g', cap', rfl, hb', hrow'⟩ := rrow_new hown (fun h => unhide HN1 (hnil.1 h).1)
        rw [← hl2]
        have HV6 : Hid (Keeps (fun _ => False) X w6) := Keeps.grown (unhide HV) hgr (fun k hk => by
          right
          rcases (unhide OWp).2 with ⟨h1, _⟩ | ⟨g2, _, _, h1, h2, _⟩
          · rw [h1] at hk; simp [Value.ownBlock] at hk
          · rw [h1] at hk; simp [Value.ownBlock] at hk; omega)
        have HROW := hide hrow'
        have HB' := hide hb'
        have y6 := (unhide HV6).cellOf (unhide Y1) id
        have l6 := (unhide HV6).cellOf (unhide XL) id
        have f6 : w6.frozen? ⟨gl, k, none⟩ = false := by rw [World.frozen?_of_block (w := X) ((unhide HV6).block gl (World.block_lt_of_cell? X _ (unhide XL)) id)]; exact unhide XF
        refine hK.out _ _ y6 (fun hNew => ?_)
        clear hown hgr hnil hrow' hb' hi hz0 hz1 hz2 i0 hl2 HV OWp NBq
        clear hK K hHeld
        have hHeld := hNew
        clear hNew
        try simp only [Act.put, List.setIfInBounds_toArray]
        refine take_at 19 45 (v := ?_) rfl rfl (by kernel_rfl) (by kernel_rfl) (by kernel_rfl) (Or.inl ⟨by rfl, ?_⟩) hHeld ?_
        rotate_left
        · intro w hSw; go_simp; with_reducible rfl
        simp only [Act.put, List.setIfInBounds_toArray, List.set_cons_zero, List.set_cons_succ]
        refine wpAnyH_ready (rs := [20]) (by kernel_rfl) (by simp) ?_
        refine AllReadyH.cons rfl (fun K hK => ?_) AllReadyH.nil
        go_simp
        refine hK.out _ _ ((World.cell?_setCell_far _ _ _ _ (unhide HGB)).trans y6) (fun hNew => ?_)
        clear hK K hHeld hNew
        refine wpAnyH_done (by kernel_rfl) ?_ _
        refine NoPanic.normal ?_
        clear y6 l6 f6
        have END := hide (rstore_end (unhide HR1) k q v hk (unhide HV6) g' cap' (unhide HB') (unhide HROW))
        clear HV6 HROW HB'
        go_wp2_with fail
        go_ret
        obtain ⟨F', ads', caps', r1, r2, r3⟩ := unhide END
        rw [unhide HSF]
        try rw [he]
        exact ⟨rfl, F', ads', caps', r1, (unhide HK1).trans' r2, fun x hx => (r3 x hx).imp id fun h => Nat.le_trans (unhide HK1).size h⟩
      · skip
        have xl := (unhide HV).cellOf (unhide XL) id
        go_simp
        clear xl
        refine hK.out _ _ hHeld (fun hNew => ?_)
        clear hK K hHeld
        have hHeld := hNew
        clear hNew
        try simp only [Act.put, List.setIfInBounds_toArray]
        refine wpAnyH_ready (rs := [5]) (by kernel_rfl) (by simp) ?_
        refine AllReadyH.cons rfl (fun K hK => ?_) AllReadyH.nil
        go_simp
        refine hK.out _ _ (cell_under hHeld _) (fun hNew => ?_)
        have OWa : Hid ((V.alloc (.cells #[] 95)).ownsRow X.heap.size 95 10 (.slice (some ⟨V.heap.size, 0, none⟩) 0 0) 0 []) := World.ownsRow_lit (base := X.heap.size) (e := 95) (size := 10) V #[] 0 (unhide HV).size (by decide) rfl
        have HV1 : Hid (Keeps (fun _ => False) X (V.alloc (.cells #[] 95))) := (unhide HV).alloc _
        clear HV
        have HV := HV1
        clear HV1
        try (have NB1 := hide ((Below.heap_alloc V (.cells #[] 95) nb (lt_of_block (unhide NBq))).trans (unhide NBq)); clear NBq; have NBq := NB1; clear NB1)
        have HEX : Hid (X.heap.size ≤ V.heap.size) := by
          have h1 : X.heap.size ≤ V.heap.size := by have := (unhide OWa).2; rcases this with ⟨h', _⟩ | ⟨g', _, _, h', h2, _⟩; simp at h'; simp at h'; obtain ⟨rfl, _⟩ := h'; exact h2
          exact h1
        obtain ⟨E, hE⟩ : ∃ E, E = V.heap.size := ⟨_, rfl⟩
        rw [← hE] at OWa HEX ⊢
        clear hE
        obtain ⟨V, hV⟩ : ∃ V' : World, V' = V.alloc (.cells #[] 95) := ⟨_, rfl⟩
        rw [← hV] at OWa HV hNew ⊢
        try rw [← hV] at NBq
        clear hV
        clear hK K hHeld
        have hHeld := hNew
        clear hNew
        try simp only [Act.put, List.setIfInBounds_toArray]
        refine wpAnyH_ready (rs := [13]) (by kernel_rfl) (by simp) ?_
        refine AllReadyH.cons rfl (fun K hK => ?_) AllReadyH.nil
        refine (if_pos (by rfl)).mpr ?_
        obtain ⟨i0, hi, hz0, hz1, hz2⟩ := info_parts info_done
        refine wp_append_src (.tmp 31) (.tmp 38) 84 rfl X.heap.size 95 i0 _ 10 24 Try.underlying84 hi hz0 hz1 hz2 rfl (by decide) (.slice (some ⟨E, 0, none⟩) 0 0) 0 [] rfl (unhide OWa) ao (A.l k).t.length (caps k) (doneV (A.l k)) rfl (unhide SNO) (doneV_len _) (unhide SCE V (unhide HV)) (doneV_one _) (by unfold maxLen; omega) (by omega) (unhide HV).size ?_
        intro v1 w4 hown hgr hnil
        rw [Nat.zero_add, List.nil_append] at hown
        have OWp := hide hown
        have HN1 : Hid (v1 ≠ .slice none 0 0) := hnil (by simp)
        have HV1 : Hid (Keeps (fun _ => False) X w4) := Keeps.grown (unhide HV) hgr (fun k hk => by simp [Value.ownBlock] at hk; right; have := unhide HEX; omega)
        try (have NB1 := hide ((hgr.block nb (lt_of_block (unhide NBq)) (fun e => own_ne (unhide OWa) (unhide NBq) (by simpa [Value.ownBlock] using e))).trans (unhide NBq)); clear NBq; have NBq := NB1; clear NB1)
        refine hK.out _ _ ((unhide HV1).cellOf (unhide Y1) id) (fun hNew => ?_)
        clear HV OWa hown hgr hnil hi hz0 hz1 hz2 i0
        have HV := HV1
        clear HV1
        obtain ⟨V, hV⟩ : ∃ V' : World, V' = w4 := ⟨_, rfl⟩
        rw [← hV] at OWp HV hNew ⊢
        try rw [← hV] at NBq
        clear hV
        clear hK K hHeld
        have hHeld := hNew
        clear hNew
        try simp only [Act.put, List.setIfInBounds_toArray]
        refine wpAnyH_ready (rs := [18]) (by kernel_rfl) (by simp) ?_
        refine AllReadyH.cons rfl (fun K hK => ?_) AllReadyH.nil
        refine (if_pos (by rfl)).mpr ?_
        obtain ⟨i0, hi, hz0, hz1, hz2⟩ := info_parts info_done
        refine wp_append_own _ (.tmp 39) (.tmp 43) 84 rfl X.heap.size 95 i0 _ 10 24 Try.underlying84 hi hz0 hz1 hz2 rfl (by decide) v1 (A.l k).t.length (doneV (A.l k)) rfl (unhide OWp) ⟨nb, 0, none⟩ 1 1 (newD q v).toList rfl rfl (fun j u hj => by rw [Addr.add_mid, Nat.zero_add, cell_of_block (unhide NBq)]; rw [Array.getElem?_toList] at hj; exact hj) (by intro u hu; simp [newD] at hu; rcases hu with rfl | rfl | rfl <;> rfl) (by unfold maxLen; omega) (by omega) (unhide HV).size ?_
        intro v2 w6 hown hgr hnil
        rw [← doneV_store (A.l k) q v (unhide HFL)] at hown
        have hl2 : (A.l k).t.length + 1 = ((A.l k).store q v).t.length := by simp [Ln.store]
        rw [hl2] at hown
        obtain ⟨g', cap', rfl, hb', hrow'⟩ := rrow_new hown (fun h => unhide HN1 (hnil.1 h).1)
        rw [← hl2]
        have HV6 : Hid (Keeps (fun _ => False) X w6) := Keeps.grown (unhide HV) hgr (fun k hk => by
          right
          rcases (unhide OWp).2 with ⟨h1, _⟩ | ⟨g2, _, _, h1, h2, _⟩
          · rw [h1] at hk; simp [Value.ownBlock] at hk
          · rw [h1] at hk; simp [Value.ownBlock] at hk; omega)
        have HROW := hide hrow'
        have HB' := hide hb'
        have y6 := (unhide HV6).cellOf (unhide Y1) id
        have l6 := (unhide HV6).cellOf (unhide XL) id
        have f6 : w6.frozen? ⟨gl, k, none⟩ = false := by rw [World.frozen?_of_block (w := X) ((unhide HV6).block gl (World.block_lt_of_cell? X _ (unhide XL)) id)]; exact unhide XF
        refine hK.out _ _ y6 (fun hNew => ?_)
        clear hown hgr hnil hrow' hb' hi hz0 hz1 hz2 i0 hl2 HV OWp NBq
        clear hK K hHeld
        have hHeld := hNew
        clear hNew
        try simp only [Act.put, List.setIfInBounds_toArray]
        refine take_at 19 45 (v := ?_) rfl rfl (by kernel_rfl) (by kernel_rfl) (by kernel_rfl) (Or.inl ⟨by rfl, ?_⟩) hHeld ?_
        rotate_left
        · intro w hSw; go_simp; with_reducible rfl
        simp only [Act.put, List.setIfInBounds_toArray, List.set_cons_zero, List.set_cons_succ]
        refine wpAnyH_ready (rs := [20]) (by kernel_rfl) (by simp) ?_
        refine AllReadyH.cons rfl (fun K hK => ?_) AllReadyH.nil
        go_simp
        refine hK.out _ _ ((World.cell?_setCell_far _ _ _ _ (unhide HGB)).trans y6) (fun hNew => ?_)
        clear hK K hHeld hNew
        refine wpAnyH_done (by kernel_rfl) ?_ _
        refine NoPanic.normal ?_
        clear y6 l6 f6
        have END := hide (rstore_end (unhide HR1) k q v hk (unhide HV6) g' cap' (unhide HB') (unhide HROW))
        clear HV6 HROW HB'
        go_wp2_with fail
        go_ret
        obtain ⟨F', ads', caps', r1, r2, r3⟩ := unhide END
        rw [unhide HSF]
        try rw [he]
        exact ⟨rfl, F', ads', caps', r1, (unhide HK1).trans' r2, fun x hx => (r3 x hx).imp id fun h => Nat.le_trans (unhide HK1).size h⟩
  · have hm' : A.may = false := by simpa using hm
    have he := err_off A hm'
    have HSF : Hid (A.store k q v = A.off) := step_off A _ hm'
    have HSL := hide (step_off A A.l hm')
    go_enter Try.func38, Try.ntmps38
    go_wp2_with fail
    refine (ris_any (unhide H) _).mono ?_
    rintro e w1 ⟨rfl, rfl⟩
    rw [D1]
    go_wp2_with fail
    refine (unhide CT).mono ?_
    rintro e w1 ⟨rfl, hr1, hk1⟩
    rw [unhide HSL] at hr1
    have HR1 := hide hr1
    have HK1 := hide hk1
    rw [he]
    clear hr1 hk1 CT
    go_wp2_with fail
    go_ret
    rw [he, unhide HSF]
    exact ⟨rfl, F, ads, caps, unhide HR1, unhide HK1, Grew.refl _ _⟩

theorem rstore_bad (h : RRep w F b A gs cs gl ads caps) (z y v : Int) (hz : ¬ (A.isZ z ∧ is8 y)) :
    Calls Try.prog 38 #[.pointer (some ⟨b, 0, none⟩), .int .i64 z, .int .i64 y, .int .u64 v] w (RWent F w b gs cs gl A (.int .i64 1)) := by
  have H := hide h
  clear h
  by_cases h1 : 0 ≤ z ∧ z < (A.n : Int)
  · have D1 : decide ((0 : Int) ≤ z ∧ z < (A.n : Int)) = true := by simpa using h1
    have h2 : ¬ (0 ≤ y ∧ y < 8) := fun h => hz ⟨h1, h⟩
    clear h1 hz
    by_cases y0 : y < 0
    · clear h2
      go_enter Try.func38, Try.ntmps38
      go_wp2_with fail
      refine (ris_any (unhide H) _).mono ?_
      rintro e w1 ⟨rfl, rfl⟩
      rw [D1]
      go_wp2_with fail
      go_ret
      exact ⟨rfl, F, ads, caps, unhide H, Keeps.refl _ _, Grew.refl _ _⟩
    · have y7 : 7 < y := by omega
      clear h2
      go_enter Try.func38, Try.ntmps38
      go_wp2_with fail
      refine (ris_any (unhide H) _).mono ?_
      rintro e w1 ⟨rfl, rfl⟩
      rw [D1]
      go_wp2_with fail
      go_ret
      exact ⟨rfl, F, ads, caps, unhide H, Keeps.refl _ _, Grew.refl _ _⟩
  · have D1 : decide ((0 : Int) ≤ z ∧ z < (A.n : Int)) = false := by simpa using h1
    clear h1 hz
    go_enter Try.func38, Try.ntmps38
    go_wp2_with fail
    refine (ris_any (unhide H) _).mono ?_
    rintro e w1 ⟨rfl, rfl⟩
    rw [D1]
    go_wp2_with fail
    go_ret
    exact ⟨rfl, F, ads, caps, unhide H, Keeps.refl _ _, Grew.refl _ _⟩

theorem rstore_any (h : RRep w F b A gs cs gl ads caps) (hok : A.ok 1000) (z y v : Int) :
    Calls Try.prog 38 #[.pointer (some ⟨b, 0, none⟩), .int .i64 z, .int .i64 y, .int .u64 v] w (RWent F w b gs cs gl (A.storeZ z y v) (.int .i64 (A.storeE z y))) := by
  unfold Mm.storeZ Mm.storeE
  by_cases c : A.isZ z ∧ is8 y
  · rw [if_pos c, if_pos c]
    obtain ⟨⟨c1, c2⟩, c3, c4⟩ := c
    have := rstore_good h hok z.toNat y.toNat v (by omega) (by omega)
    rw [show ((y.toNat : Nat) : Int) = y by omega, show ((z.toNat : Nat) : Int) = z by omega] at this
    exact this
  · rw [if_neg c, if_neg c]
    exact rstore_bad h z y v c
end

end Go.Proofs.Ytmmgacpipcgkdaa
