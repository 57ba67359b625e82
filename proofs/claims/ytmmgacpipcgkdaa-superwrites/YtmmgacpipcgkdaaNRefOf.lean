
/-
  What the document's Of and New make.
-/
import Derived.Test.YtmmgacpipcgkdaaNRefCrash
import Derived.Test.YtmmgacpipcgkdaaNLines
namespace Go.Proofs.Ytmmgacpipcgkdaa
open Go.ChangeShapes Go.WideShapes Go.ChangeAt Go.RowKit Go.Joins
set_option maxRecDepth 10000
set_option linter.unusedVariables false
set_option linter.unusedSimpArgs false

theorem wp_make_full {P : Program} {w : World} {o : Oper} {a : Act} {K : Act → World → Prop} {Q : Exit → Act → World → Prop}
    (l c : Operand) (t : TypeId) (hop : o.op = Op.makeSlice t l c)
    (base : Nat) (e : TypeId) (i : TypeInfo) (z : Value) (size : Nat) (h1 : P.underlying t = some (.slice e)) (h2 : P.info? e = some i) (h3 : i.zero = some z) (h4 : i.size = size)
    (n : Nat) (hl : a.eval l = .int .i64 (n : Int)) (hc : a.eval c = .int .i64 (n : Int)) (b2 : i.bytes * n ≤ 281474976710656) (b3 : n ≤ maxLen) (b4 : base ≤ w.heap.size)
    (hK : ∀ w', w'.ownsRow base e size (.slice (some ⟨w.heap.size, 0, none⟩) n n) n (madeCells z.cells (n * size)).toList → w.grownBy w' none → K (a.put o.dst (.slice (some ⟨w.heap.size, 0, none⟩) n n)) w') : o.wp P a w K Q := by
  obtain ⟨w', hrun, r1, r2⟩ := run_make_full (P := P) w base t e i z size h1 h2 h3 h4 .i64 .i64 n b2 b3 b4
  unfold Oper.wp
  simp [execOp, hop, hl, hc, hrun, Result.andThen]
  exact hK w' r1 r2
theorem info_dones : (Try.prog.info? 84).map (fun i => (i.zero, i.size, i.bytes)) = some (some (.slice none 0 0), 1, 24) := by kernel_rfl
theorem built_ref (gs n cs gl : Nat) : Try.prog.built 57 [(0, .slice (some ⟨gs, 0, none⟩) n cs), (1, .slice (some ⟨gl, 0, none⟩) n n), (3, .int .i64 (-1))] = some #[.slice (some ⟨gs, 0, none⟩) n cs, .slice (some ⟨gl, 0, none⟩) n n, .bool false, .int .i64 (-1), .int .i64 0] := by kernel_rfl

def RMade (w : World) (n : Nat) (s : Nat → Nat → Int) (e : Ending) (w' : World) : Prop :=
  ∃ b gs cs gl F ads caps, e = .returned (.tuple #[.pointer (some ⟨b, 0, none⟩), .int .i64 0]) ∧ RRep w' F b (Mm.new n s) gs cs gl ads caps ∧ Keeps (fun _ => False) w w' ∧ ∀ k, F k → w.heap.size ≤ k

theorem rmake {w w5 : World} {n gs cs gl : Nat} {s : Nat → Nat → Int} (hk : Keeps (fun _ => False) w w5) (hs1 : w.heap.size ≤ gs) (hl1 : w.heap.size ≤ gl) (hgg : gs ≠ gl) (hsr : ∀ i, i < n → w5.rangeAt gs (i * 8) ((List.range 8).map fun j => .int .u64 (s i j)))
    (hgs : ∃ cur, w5.heap[gs]? = some (.cells cur 26 (0, 0)) ∧ n * 8 ≤ cur.size) (hcs : n ≤ cs) (hlb : Blk w5 gl n 84 (fun _ => .slice none 0 0)) :
    RMade w n s (.returned (.tuple #[.pointer (some ⟨w5.heap.size, 0, none⟩), .int .i64 0])) (w5.alloc (.cells #[.slice (some ⟨gs, 0, none⟩) n cs, .slice (some ⟨gl, 0, none⟩) n n, .bool false, .int .i64 (-1), .int .i64 0] 57)) := by
  obtain ⟨cur, hcur, hsz⟩ := hgs
  have hgsl := lt_of_block hcur
  have hgll := hlb.lt
  have hct : cur = tab cur.size (fun i => cur.getD i undef) := by
    apply Array.ext_getElem?
    intro i
    by_cases hi : i < cur.size
    · rw [tab_get _ _ _ hi]; simp [Array.getD, hi]
    · rw [tab_none _ _ _ (by omega), Array.getElem?_eq_none (by omega)]
  have hbs : Blk w5 gs cur.size 26 (fun i => cur.getD i undef) := Blk.of_tab (by rw [← hct]; exact hcur)
  refine ⟨w5.heap.size, gs, cs, gl, fun x => x = w5.heap.size ∨ x = gs ∨ x = gl, fun _ => none, fun _ => 0, rfl, ⟨heap_new w5 _, ⟨cur.size, _, hbs.alloc _, hsz, hcs, fun i hi => ?_⟩, hlb.alloc _, fun i _ => Or.inl ⟨rfl, rfl, rfl⟩, by omega, by omega, hgg, fun i _ g hg => by simp at hg, fun i j _ _ _ g hg => by simp at hg, Or.inl rfl, Or.inr (Or.inl rfl), Or.inr (Or.inr rfl), fun x hx => ?_⟩, hk.alloc _, fun x hx => ?_⟩
  · have h1 : i < n * 8 := hi
    have := hsr (i / 8) (by omega) (i % 8) (.int .u64 (s (i / 8) (i % 8))) (by simp [show i % 8 < 8 by omega])
    rw [cell_of_block hcur, show i / 8 * 8 + i % 8 = i by omega] at this
    show cur.getD i undef = _
    rw [Array.getD_eq_getD_getElem?, this]; rfl
  · rcases hx with rfl | rfl | rfl
    · simp
    · simp; omega
    · simp; omega
  · rcases hx with rfl | rfl | rfl
    · exact hk.size
    · exact hs1
    · exact hl1

/-- A row of lines that the call itself owns, with its block. -/
theorem own_lines2 {w : World} {base : Nat} {v : Value} {n : Nat} {s : Nat → Nat → Int} (h : w.ownsRow base 26 8 v n (linesV n s)) (hv : v ≠ .slice none 0 0) :
    ∃ g cap, v = .slice (some ⟨g, 0, none⟩) n cap ∧ base ≤ g ∧ n ≤ cap ∧ (∀ i, i < n → w.rangeAt g (i * 8) ((List.range 8).map fun j => .int .u64 (s i j))) ∧ ∃ cur, w.heap[g]? = some (.cells cur 26 (0, 0)) ∧ n * 8 ≤ cur.size := by
  obtain ⟨g, cap, rfl, h1, h2, h3, h4, h5⟩ := own_lines h hv
  refine ⟨g, cap, rfl, h1, h3, h4, ?_⟩
  rcases h.2 with ⟨h', _⟩ | ⟨g', cap', cur, h', _, hg, hnc, _, hcs, _⟩
  · simp at h'
  · simp only [Value.slice.injEq, Option.some.injEq, Addr.mk.injEq, and_true, true_and] at h'
    obtain ⟨rfl, rfl⟩ := h'
    exact ⟨cur, hg, by omega⟩
theorem made_dones {w : World} {base g n : Nat} (h : w.ownsRow base 84 1 (.slice (some ⟨g, 0, none⟩) n n) n (madeCells (Value.slice none 0 0).cells (n * 1)).toList) : Blk w g n 84 (fun _ => .slice none 0 0) := by
  have := made_blk h (f := fun _ => .slice none 0 0) fun i _ => by
    show (#[Value.slice none 0 0] : Array Value)[i % 1]! = _
    rw [Nat.mod_one]; rfl
  rw [Nat.mul_one] at this
  exact this

theorem rof_any (w : World) (x : Addr) (n cap : Nat) (s : Nat → Nat → Int) (hn : 64 ≤ n) (hn2 : n ≤ 1024) (hc : ∀ j u, (linesV n s)[j]? = some u → w.cell? (x.add j) = some u) (hx : x.spot = none) :
    Calls Try.prog 34 #[.slice (some x) n cap] w (RMade w n s) := by
  have n64 : ¬ ((n : Int) < 64) := by omega
  have n1024 : ¬ ((1024 : Int) < (n : Int)) := by omega
  obtain ⟨xb, xo, xs⟩ := x
  obtain rfl : xs = none := hx
  have HC : Hid (∀ w' : World, Keeps (fun _ => False) w w' → ∀ j u, (linesV n s)[j]? = some u → w'.cell? ((⟨xb, xo, none⟩ : Addr).add j) = some u) := fun w' hk j u hj => by
    have := hc j u hj
    rw [Addr.add_mid] at this ⊢
    exact hk.cellOf this id
  clear hc
  go_enter Try.func34, Try.ntmps34
  go_wp2_with fail
  refine wp_region_noPanic ?_
  refine wp_region_held_drew (S := fun w' => Keeps (fun _ => False) w w') (by kernel_rfl) ((Keeps.refl _ _).drew) (fun hHeld => ?_)
  refine take_at 1 13 (v := ?_) rfl rfl (by kernel_rfl) (by kernel_rfl) (by kernel_rfl) (Or.inl ⟨by rfl, ?_⟩) hHeld ?_
  rotate_left
  · intro w hSw; go_simp; with_reducible rfl
  simp only [Act.put, List.setIfInBounds_toArray, List.set_cons_zero, List.set_cons_succ]
  refine take_at 3 15 (v := ?_) rfl rfl (by kernel_rfl) (by kernel_rfl) (by kernel_rfl) (Or.inl ⟨by rfl, ?_⟩) hHeld ?_
  rotate_left
  · intro w hSw; go_simp; with_reducible rfl
  simp only [Act.put, List.setIfInBounds_toArray, List.set_cons_zero, List.set_cons_succ]
  refine take_at 4 16 (v := ?_) rfl rfl (by kernel_rfl) (by kernel_rfl) (by kernel_rfl) (Or.inl ⟨by rfl, ?_⟩) hHeld ?_
  rotate_left
  · intro w hSw; go_simp; with_reducible rfl
  simp only [Act.put, List.setIfInBounds_toArray, List.set_cons_zero, List.set_cons_succ]
  generalize w.drew = V at *
  refine wpAnyH_ready (rs := [0, 5]) (by kernel_rfl) (by simp) ?_
  refine AllReadyH.cons rfl (fun K hK => ?_) (AllReadyH.cons rfl (fun K hK => ?_) AllReadyH.nil)
  · skip
    go_simp
    have OW : Hid ((V.alloc (.cells #[] 26)).ownsRow w.heap.size 26 8 (.slice (some ⟨V.heap.size, 0, none⟩) 0 0) 0 []) := World.ownsRow_lit (base := w.heap.size) (e := 26) (size := 8) V #[] 0 hHeld.size (by decide) rfl
    refine hK.out _ _ (hHeld.alloc _) (fun hNew => ?_)
    clear hK K
    have HEW : Hid (w.heap.size ≤ V.heap.size) := hHeld.size
    have hEl : V.heap.size < (V.alloc (.cells #[] 26)).heap.size := by simp

    obtain ⟨E, hE⟩ : ∃ E, E = V.heap.size := ⟨_, rfl⟩
    rw [← hE] at OW HEW hEl ⊢
    clear hHeld
    have hHeld := hNew
    clear hNew

    clear hE
    generalize V.alloc (.cells #[] 26) = V1 at *
    refine wpAnyH_ready (rs := [2, 5]) (by kernel_rfl) (by simp) ?_
    refine AllReadyH.cons rfl (fun K hK => ?_) (AllReadyH.cons rfl (fun K hK => ?_) AllReadyH.nil)
    · skip
      refine (if_pos (by rfl)).mpr ?_
      obtain ⟨i0, hi, hz0, hz1, hz2⟩ := info_parts info_line
      refine wp_append_own _ (.tmp 12) (.tmp 13) 54 rfl w.heap.size 26 i0 _ 8 64 Try.underlying54 hi hz0 hz1 hz2 rfl (by decide) (.slice (some ⟨E, 0, none⟩) 0 0) 0 [] rfl (unhide OW) ⟨xb, xo, none⟩ n cap (linesV n s) rfl (linesV_len n s) (unhide HC _ hHeld) (linesV_one n s) (by unfold maxLen; omega) (by omega) hHeld.size ?_
      intro v' w4 hown hgr hnil
      rw [Nat.zero_add, List.nil_append] at hown
      obtain ⟨gs, cs, rfl, g1, g2, g3, g4⟩ := own_lines2 hown (fun h => by have := hnil.1 h; simp at this)
      have GS1 := hide g1
      have GS2 := hide g2
      have GS3 := hide g3
      have GS4 := hide g4
      clear hown hnil g1 g2 g3 g4 hi hz0 hz1 hz2 i0 OW
      have hK4 : Keeps (fun _ => False) w w4 := Keeps.grown hHeld hgr (fun k hk => by simp [Value.ownBlock] at hk; right; have := unhide HEW; omega)
      refine hK.out _ _ hK4 (fun hNew => ?_)
      clear hK K hHeld hgr
      have hHeld := hNew
      clear hNew hK4
      refine wpAnyH_ready (rs := [5]) (by kernel_rfl) (by simp) ?_
      refine AllReadyH.cons rfl (fun K hK => ?_) AllReadyH.nil
      refine (if_pos (by rfl)).mpr ?_
      obtain ⟨i1, hi1, hz10, hz11, hz12⟩ := info_parts info_dones
      refine wp_make_full (.tmp 16) (.tmp 16) 55 rfl w.heap.size 84 i1 _ 1 Try.underlying55 hi1 hz10 hz11 n rfl rfl (by rw [hz12]; omega) (by unfold maxLen; omega) hHeld.size ?_
      intro w5 hownl hgrl
      have BL := hide (made_dones hownl)
      clear hownl hi1 hz10 hz11 hz12 i1
      have hK5 : Keeps (fun _ => False) w4 w5 := Keeps.grown (Keeps.refl _ _) hgrl (fun k hk => by simp at hk)
      have GL1 : Hid (w.heap.size ≤ w4.heap.size) := hHeld.size
      refine hK.out _ _ (hHeld.trans' hK5) (fun hNew => ?_)
      clear hK K hHeld hgrl
      have hHeld := hNew
      clear hNew
      have GS3' : Hid (∀ i, i < n → w5.rangeAt gs (i * 8) ((List.range 8).map fun j => .int .u64 (s i j))) := fun i hi => rangeAt_keeps (unhide GS3 i hi) hK5 id
      have GS4' : Hid (∃ cur, w5.heap[gs]? = some (.cells cur 26 (0, 0)) ∧ n * 8 ≤ cur.size) := by
        obtain ⟨cur, h1, h2⟩ := unhide GS4
        exact ⟨cur, (hK5.block gs (lt_of_block h1) id).trans h1, h2⟩
      clear GS3 GS4 hK5
      have GS3 := GS3'
      have GS4 := GS4'
      clear GS3' GS4'
      obtain ⟨gl, hgl⟩ : ∃ gl, gl = w4.heap.size := ⟨_, rfl⟩
      rw [← hgl] at BL GL1 ⊢
      clear hgl
      generalize w5 = Z at *
      have hgg : gs ≠ gl := fun e => by
        obtain ⟨cur, h1, _⟩ := unhide GS4
        obtain ⟨cur2, h2, _⟩ := unhide BL
        rw [← e, h1] at h2
        simp at h2
      simp only [Act.put, List.setIfInBounds_toArray]
      refine take_at 6 18 (v := ?_) rfl rfl (by kernel_rfl) (by kernel_rfl) (by kernel_rfl) (Or.inl ⟨by rfl, ?_⟩) hHeld ?_
      rotate_left
      · intro w hSw; go_simp; with_reducible rfl
      simp only [Act.put, List.setIfInBounds_toArray, List.set_cons_zero, List.set_cons_succ]
      refine wpAnyH_ready (rs := [7]) (by kernel_rfl) (by simp) ?_
      refine AllReadyH.cons rfl (fun K hK => ?_) AllReadyH.nil
      go_simp
      refine hK.out _ _ (hHeld.alloc _) (fun hNew => ?_)
      clear hK K
      have HKZ := hide hHeld
      clear hHeld
      have hHeld := hNew
      clear hNew
      refine take_at 8 2 (v := ?_) rfl rfl (by kernel_rfl) (by kernel_rfl) (by kernel_rfl) (Or.inl ⟨by rfl, ?_⟩) hHeld ?_
      rotate_left
      · intro w hSw; go_simp; with_reducible rfl
      simp only [Act.put, List.setIfInBounds_toArray, List.set_cons_zero, List.set_cons_succ]
      refine take_at 9 3 (v := ?_) rfl rfl (by kernel_rfl) (by kernel_rfl) (by kernel_rfl) (Or.inl ⟨by rfl, ?_⟩) hHeld ?_
      rotate_left
      · intro w hSw; go_simp; with_reducible rfl
      simp only [Act.put, List.setIfInBounds_toArray, List.set_cons_zero, List.set_cons_succ]
      refine wpAnyH_done (by kernel_rfl) ?_ _
      refine NoPanic.normal ?_
      clear hHeld
      go_wp2_with fail
      go_ret2
      exact rmake (unhide HKZ) (unhide GS1) (unhide GL1) hgg (unhide GS3) (unhide GS4) (unhide GS2) (unhide BL)
    · skip
      refine (if_pos (by rfl)).mpr ?_
      obtain ⟨i1, hi1, hz10, hz11, hz12⟩ := info_parts info_dones
      refine wp_make_full (.tmp 16) (.tmp 16) 55 rfl w.heap.size 84 i1 _ 1 Try.underlying55 hi1 hz10 hz11 n rfl rfl (by rw [hz12]; omega) (by unfold maxLen; omega) hHeld.size ?_
      intro w5 hownl hgrl
      have BL := hide (made_dones hownl)
      clear hownl hi1 hz10 hz11 hz12 i1
      have OW5 := hide ((unhide OW).kept hgrl (Or.inr (by simp [Value.ownBlock])))
      have hK5 : Keeps (fun _ => False) V1 w5 := Keeps.grown (Keeps.refl _ _) hgrl (fun k hk => by simp at hk)
      have GL1 : Hid (w.heap.size ≤ V1.heap.size) := hHeld.size
      have hgE : Hid (V1.heap.size ≠ E) := by show _ ≠ _; omega
      refine hK.out _ _ (hHeld.trans' hK5) (fun hNew => ?_)
      clear hK K hHeld hgrl OW hK5
      have hHeld := hNew
      have OW := OW5
      clear hNew OW5
      obtain ⟨gl, hgl⟩ : ∃ gl, gl = V1.heap.size := ⟨_, rfl⟩
      rw [← hgl] at BL GL1 hgE ⊢
      clear hgl
      simp only [Act.put, List.setIfInBounds_toArray]
      refine wpAnyH_ready (rs := [2]) (by kernel_rfl) (by simp) ?_
      refine AllReadyH.cons rfl (fun K hK => ?_) AllReadyH.nil
      refine (if_pos (by rfl)).mpr ?_
      obtain ⟨i0, hi, hz0, hz1, hz2⟩ := info_parts info_line
      refine wp_append_own _ (.tmp 12) (.tmp 13) 54 rfl w.heap.size 26 i0 _ 8 64 Try.underlying54 hi hz0 hz1 hz2 rfl (by decide) (.slice (some ⟨E, 0, none⟩) 0 0) 0 [] rfl (unhide OW) ⟨xb, xo, none⟩ n cap (linesV n s) rfl (linesV_len n s) (unhide HC _ hHeld) (linesV_one n s) (by unfold maxLen; omega) (by omega) hHeld.size ?_
      intro v' w4 hown hgr hnil
      rw [Nat.zero_add, List.nil_append] at hown
      obtain ⟨gs, cs, rfl, g1, g2, g3, g4⟩ := own_lines2 hown (fun h => by have := hnil.1 h; simp at this)
      have GS1 := hide g1
      have GS2 := hide g2
      have GS3 := hide g3
      have GS4 := hide g4
      clear hown hnil g1 g2 g3 g4 hi hz0 hz1 hz2 i0 OW
      have hK4 : Keeps (fun x => x = E) _ w4 := Keeps.grown (Keeps.refl _ _) hgr (fun k hk => by simp [Value.ownBlock] at hk; left; exact hk.symm)
      have BL4 : Hid (Blk w4 gl n 84 (fun _ => .slice none 0 0)) := (unhide BL).keeps hK4 (unhide hgE)
      have hK6 : Keeps (fun _ => False) w w4 := Keeps.grown hHeld hgr (fun k hk => by simp [Value.ownBlock] at hk; right; have := unhide HEW; omega)
      refine hK.out _ _ hK6 (fun hNew => ?_)
      clear hK K hHeld hgr hK4 hK6 BL
      have hHeld := hNew
      have BL := BL4
      clear hNew BL4
      generalize w4 = Z at *
      have hgg : gs ≠ gl := fun e => by
        obtain ⟨cur, h1, _⟩ := unhide GS4
        obtain ⟨cur2, h2, _⟩ := unhide BL
        rw [← e, h1] at h2
        simp at h2
      simp only [Act.put, List.setIfInBounds_toArray]
      refine take_at 6 18 (v := ?_) rfl rfl (by kernel_rfl) (by kernel_rfl) (by kernel_rfl) (Or.inl ⟨by rfl, ?_⟩) hHeld ?_
      rotate_left
      · intro w hSw; go_simp; with_reducible rfl
      simp only [Act.put, List.setIfInBounds_toArray, List.set_cons_zero, List.set_cons_succ]
      refine wpAnyH_ready (rs := [7]) (by kernel_rfl) (by simp) ?_
      refine AllReadyH.cons rfl (fun K hK => ?_) AllReadyH.nil
      go_simp
      refine hK.out _ _ (hHeld.alloc _) (fun hNew => ?_)
      clear hK K
      have HKZ := hide hHeld
      clear hHeld
      have hHeld := hNew
      clear hNew
      refine take_at 8 2 (v := ?_) rfl rfl (by kernel_rfl) (by kernel_rfl) (by kernel_rfl) (Or.inl ⟨by rfl, ?_⟩) hHeld ?_
      rotate_left
      · intro w hSw; go_simp; with_reducible rfl
      simp only [Act.put, List.setIfInBounds_toArray, List.set_cons_zero, List.set_cons_succ]
      refine take_at 9 3 (v := ?_) rfl rfl (by kernel_rfl) (by kernel_rfl) (by kernel_rfl) (Or.inl ⟨by rfl, ?_⟩) hHeld ?_
      rotate_left
      · intro w hSw; go_simp; with_reducible rfl
      simp only [Act.put, List.setIfInBounds_toArray, List.set_cons_zero, List.set_cons_succ]
      refine wpAnyH_done (by kernel_rfl) ?_ _
      refine NoPanic.normal ?_
      clear hHeld
      go_wp2_with fail
      go_ret2
      exact rmake (unhide HKZ) (unhide GS1) (unhide GL1) hgg (unhide GS3) (unhide GS4) (unhide GS2) (unhide BL)
  · skip
    refine (if_pos (by rfl)).mpr ?_
    obtain ⟨i1, hi1, hz10, hz11, hz12⟩ := info_parts info_dones
    refine wp_make_full (.tmp 16) (.tmp 16) 55 rfl w.heap.size 84 i1 _ 1 Try.underlying55 hi1 hz10 hz11 n rfl rfl (by rw [hz12]; omega) (by unfold maxLen; omega) hHeld.size ?_
    intro w5 hownl hgrl
    have BL := hide (made_dones hownl)
    clear hownl hi1 hz10 hz11 hz12 i1
    have hK5 : Keeps (fun _ => False) V w5 := Keeps.grown (Keeps.refl _ _) hgrl (fun k hk => by simp at hk)
    have GL1 : Hid (w.heap.size ≤ V.heap.size) := hHeld.size
    refine hK.out _ _ (hHeld.trans' hK5) (fun hNew => ?_)
    clear hK K hHeld hgrl hK5
    have hHeld := hNew
    clear hNew
    obtain ⟨gl, hgl⟩ : ∃ gl, gl = V.heap.size := ⟨_, rfl⟩
    rw [← hgl] at BL GL1 ⊢
    clear hgl V
    generalize w5 = V at *
    have hglV : Hid (gl < V.heap.size) := (unhide BL).lt
    simp only [Act.put, List.setIfInBounds_toArray]
    refine wpAnyH_ready (rs := [0]) (by kernel_rfl) (by simp) ?_
    refine AllReadyH.cons rfl (fun K hK => ?_) AllReadyH.nil
    go_simp
    have OW : Hid ((V.alloc (.cells #[] 26)).ownsRow w.heap.size 26 8 (.slice (some ⟨V.heap.size, 0, none⟩) 0 0) 0 []) := World.ownsRow_lit (base := w.heap.size) (e := 26) (size := 8) V #[] 0 hHeld.size (by decide) rfl
    refine hK.out _ _ (hHeld.alloc _) (fun hNew => ?_)
    clear hK K
    have HEW : Hid (w.heap.size ≤ V.heap.size) := hHeld.size
    have hEl : V.heap.size < (V.alloc (.cells #[] 26)).heap.size := by simp
    have BL1 : Hid (Blk (V.alloc (.cells #[] 26)) gl n 84 (fun _ => .slice none 0 0)) := (unhide BL).alloc _
    clear BL
    have BL := BL1
    clear BL1
    obtain ⟨E, hE⟩ : ∃ E, E = V.heap.size := ⟨_, rfl⟩
    rw [← hE] at OW HEW hEl ⊢
    clear hHeld
    have hHeld := hNew
    clear hNew
    have hgE : Hid (gl ≠ E) := by show _ ≠ _; have := unhide hglV; omega
    clear hglV
    clear hE
    generalize V.alloc (.cells #[] 26) = V1 at *
    refine wpAnyH_ready (rs := [2]) (by kernel_rfl) (by simp) ?_
    refine AllReadyH.cons rfl (fun K hK => ?_) AllReadyH.nil
    refine (if_pos (by rfl)).mpr ?_
    obtain ⟨i0, hi, hz0, hz1, hz2⟩ := info_parts info_line
    refine wp_append_own _ (.tmp 12) (.tmp 13) 54 rfl w.heap.size 26 i0 _ 8 64 Try.underlying54 hi hz0 hz1 hz2 rfl (by decide) (.slice (some ⟨E, 0, none⟩) 0 0) 0 [] rfl (unhide OW) ⟨xb, xo, none⟩ n cap (linesV n s) rfl (linesV_len n s) (unhide HC _ hHeld) (linesV_one n s) (by unfold maxLen; omega) (by omega) hHeld.size ?_
    intro v' w4 hown hgr hnil
    rw [Nat.zero_add, List.nil_append] at hown
    obtain ⟨gs, cs, rfl, g1, g2, g3, g4⟩ := own_lines2 hown (fun h => by have := hnil.1 h; simp at this)
    have GS1 := hide g1
    have GS2 := hide g2
    have GS3 := hide g3
    have GS4 := hide g4
    clear hown hnil g1 g2 g3 g4 hi hz0 hz1 hz2 i0 OW
    have hK4 : Keeps (fun x => x = E) _ w4 := Keeps.grown (Keeps.refl _ _) hgr (fun k hk => by simp [Value.ownBlock] at hk; left; exact hk.symm)
    have BL4 : Hid (Blk w4 gl n 84 (fun _ => .slice none 0 0)) := (unhide BL).keeps hK4 (unhide hgE)
    have hK6 : Keeps (fun _ => False) w w4 := Keeps.grown hHeld hgr (fun k hk => by simp [Value.ownBlock] at hk; right; have := unhide HEW; omega)
    refine hK.out _ _ hK6 (fun hNew => ?_)
    clear hK K hHeld hgr hK4 hK6 BL
    have hHeld := hNew
    have BL := BL4
    clear hNew BL4
    generalize w4 = Z at *
    have hgg : gs ≠ gl := fun e => by
      obtain ⟨cur, h1, _⟩ := unhide GS4
      obtain ⟨cur2, h2, _⟩ := unhide BL
      rw [← e, h1] at h2
      simp at h2
    simp only [Act.put, List.setIfInBounds_toArray]
    refine take_at 6 18 (v := ?_) rfl rfl (by kernel_rfl) (by kernel_rfl) (by kernel_rfl) (Or.inl ⟨by rfl, ?_⟩) hHeld ?_
    rotate_left
    · intro w hSw; go_simp; with_reducible rfl
    simp only [Act.put, List.setIfInBounds_toArray, List.set_cons_zero, List.set_cons_succ]
    refine wpAnyH_ready (rs := [7]) (by kernel_rfl) (by simp) ?_
    refine AllReadyH.cons rfl (fun K hK => ?_) AllReadyH.nil
    go_simp
    refine hK.out _ _ (hHeld.alloc _) (fun hNew => ?_)
    clear hK K
    have HKZ := hide hHeld
    clear hHeld
    have hHeld := hNew
    clear hNew
    refine take_at 8 2 (v := ?_) rfl rfl (by kernel_rfl) (by kernel_rfl) (by kernel_rfl) (Or.inl ⟨by rfl, ?_⟩) hHeld ?_
    rotate_left
    · intro w hSw; go_simp; with_reducible rfl
    simp only [Act.put, List.setIfInBounds_toArray, List.set_cons_zero, List.set_cons_succ]
    refine take_at 9 3 (v := ?_) rfl rfl (by kernel_rfl) (by kernel_rfl) (by kernel_rfl) (Or.inl ⟨by rfl, ?_⟩) hHeld ?_
    rotate_left
    · intro w hSw; go_simp; with_reducible rfl
    simp only [Act.put, List.setIfInBounds_toArray, List.set_cons_zero, List.set_cons_succ]
    refine wpAnyH_done (by kernel_rfl) ?_ _
    refine NoPanic.normal ?_
    clear hHeld
    go_wp2_with fail
    go_ret2
    exact rmake (unhide HKZ) (unhide GS1) (unhide GL1) hgg (unhide GS3) (unhide GS4) (unhide GS2) (unhide BL)

theorem rnew_any (w : World) (n : Nat) (hn : 64 ≤ n) (hn2 : n ≤ 1024) : Calls Try.prog 18 #[.int .i64 n] w (RMade w n fun _ _ => 0) := by
  have n64 : ¬ ((n : Int) < 64) := by omega
  have n1024 : ¬ ((1024 : Int) < (n : Int)) := by omega
  obtain ⟨i0, hi, hz0, hz1, hz2⟩ := info_parts info_line
  go_enter Try.func18, Try.ntmps18
  go_wp2_with (at_make; refine wpList_make_full _ rfl _ _ 54 rfl w.heap.size 26 i0 _ 8 Try.underlying54 hi hz0 hz1 .i64 .i64 _ _ n rfl rfl rfl rfl (by rw [hz2]; omega) (by unfold maxLen; omega) (Nat.le_refl _) ?_; intro w2 hown hgrow)
  have hb : Blk w2 w.heap.size (n * 8) 26 (fun _ => .int .u64 0) := made_blk hown fun i _ => by
    show (lnV fun _ => 0)[i % (lnV fun _ => 0).size]! = _
    rw [lnV_size]
    have := tab_get 8 (fun _ => Value.int .u64 0) (i % 8) (Nat.mod_lt _ (by decide))
    rw [getElem!_def, show (lnV fun _ => 0)[i % 8]? = _ from this]
  have hl : ∀ i, i < n → w2.rangeAt w.heap.size (0 + i * 8) ((List.range 8).map fun j => .int .u64 ((fun _ _ => 0 : Nat → Nat → Int) i j)) := fun i hi => hb.range _ 8 (by omega) _ (fun j hj => rfl)
  refine (rof_any w2 ⟨w.heap.size, 0, none⟩ n n _ hn hn2 (lines_cells hl) rfl).mono ?_
  rintro e w3 ⟨b, gs, cs, gl, F, ads, caps, rfl, hr, hkp, hF⟩
  have HR := hide hr
  have HK : Hid (Keeps (fun _ => False) w w3) := (Keeps.grown (Keeps.refl _ _) hgrow (fun k hk => by simp at hk)).trans' hkp
  have HS := hgrow.size
  clear hr hkp hown hb hl hi hz0 hz1 hz2 hgrow
  go_wp2_with fail
  go_ret2
  exact ⟨b, gs, cs, gl, F, ads, caps, rfl, unhide HR, unhide HK, fun k hk => Nat.le_trans HS (hF k hk)⟩

theorem rnew_bad (w : World) (z : Int) (hz : ¬ (64 ≤ z ∧ z ≤ 1024)) : Calls Try.prog 18 #[.int .i64 z] w fun e w' => e = .returned (.tuple #[.pointer none, .int .i64 1]) ∧ w' = w := by
  by_cases h1 : z < 64
  · clear hz
    go_enter Try.func18, Try.ntmps18
    go_wp2_with fail
    go_ret2
    exact ⟨rfl, rfl⟩
  · have h2 : 1024 < z := by omega
    clear hz
    go_enter Try.func18, Try.ntmps18
    go_wp2_with fail
    go_ret2
    exact ⟨rfl, rfl⟩

end Go.Proofs.Ytmmgacpipcgkdaa
