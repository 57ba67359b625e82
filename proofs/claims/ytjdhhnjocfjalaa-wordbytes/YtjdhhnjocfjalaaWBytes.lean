/-
  For every line and every 64 bytes, WordBytes returns true and leaves its arguments as they were: a line's bytes and the line of bytes are the document's, and each is the other one again. No condition.
-/
import Derived.Test.YtjdhhnjocfjalaaWLines2
import Derived.Test.YtjdhhnjocfjalaaWLines4
import Derived.Test.YtjdhhnjocfjalaaEqual
import Derived.Test.YtjdhhnjocfjalaaLaw
import Derived.Test.YtjdhhnjocfjalaaFlat
import Derived.Deep.RegionHeld3
import Derived.Deep.MidRow
namespace Go.Proofs.Ytjdhhnjocfjalaa.wordBytes
open Go.ChangeShapes Go.WideShapes Go.ChangeAt Go.RowKit Go.Joins
set_option linter.unusedVariables false

set_option maxHeartbeats 4000000 in
set_option maxRecDepth 100000 in
theorem walk (ls : List Int) (bs : List Int) (hls : ls.length = 8 ∧ ∀ z ∈ ls, (Lit.int .u64 z).wf = true) (hbs : bs.length = 64 ∧ ∀ z ∈ bs, (Lit.int .u8 z).wf = true) (W : World) :
    Calls Try.prog 6 #[.agg (iv .u64 ls), .agg (iv .u8 bs)] W fun e W' => e = .returned (.bool true) ∧ Below W.heap.size W W' := by
  obtain ⟨hl1, hl2⟩ := hls
  obtain ⟨hb1, hb2⟩ := hbs
  obtain ⟨cs, hcs⟩ : ∃ cs : List Value, cs = bs.map (fun z => Value.int .u8 z) := ⟨_, rfl⟩
  have hcl : cs.length = 64 := by rw [hcs]; simpa using hb1
  have hci : iv .u8 bs = cs.toArray := by rw [hcs]; rfl
  obtain ⟨ds, hds⟩ : ∃ ds : List Value, ds = ls.map (fun z => Value.int .u64 z) := ⟨_, rfl⟩
  have hdl : ds.length = 8 := by rw [hds]; simpa using hl1
  have hdi : iv .u64 ls = ds.toArray := by rw [hds]; rfl
  rw [hci, hdi]
  have hi : (Try.prog.info? 35).map (·.size) = some cs.length := by rw [hcl]; exact size64
  have hj : (Try.prog.info? 34).map (·.size) = some ds.length := by rw [hdl]; exact size8
  have HB : Hid (∀ w : World, Calls Try.prog 14 #[.agg ds.toArray] w fun e w' => e = .returned (.agg (iv .u8 (bytesOf ls))) ∧ Below w.heap.size w w') := fun w => by rw [← hdi]; exact bytes_any ls hl1 hl2 w
  have HR : Hid (∀ w : World, Calls Try.prog 15 #[.agg ds.toArray] w fun e w' => e = .returned (.agg (iv .u8 (bytesOf ls))) ∧ Below w.heap.size w w') := fun w => by rw [← hdi]; exact rbytes_any ls hl1 hl2 w
  have HO : Hid (∀ w : World, Calls Try.prog 16 #[.agg cs.toArray] w fun e w' => e = .returned (.agg (iv .u64 (lineOf bs))) ∧ Below w.heap.size w w') := fun w => by rw [← hci]; exact ofBytes_any bs hb1 hb2 w
  have HQ : Hid (∀ w : World, Calls Try.prog 17 #[.agg cs.toArray] w fun e w' => e = .returned (.agg (iv .u64 (lineOf bs))) ∧ Below w.heap.size w w') := fun w => by rw [← hci]; exact rofBytes_any bs hb1 hb2 w
  have hBw : ∀ z ∈ bytesOf ls, (Lit.int .u8 z).wf = true := fun z hz => by
    have := bytesOf_bd _ z hz
    simp [Lit.wf, IntKind.min, IntKind.max, IntKind.signed, IntKind.bits]; omega
  have hLw : ∀ z ∈ lineOf bs, (Lit.int .u64 z).wf = true := fun z hz => by
    have := lineOf_bd bs (wfs_u8 hb2) z hz
    simp [Lit.wf, IntKind.min, IntKind.max, IntKind.signed, IntKind.bits]; omega
  have HOB : Hid (∀ w : World, Calls Try.prog 16 #[.agg (iv .u8 (bytesOf ls))] w fun e w' => e = .returned (.agg ds.toArray) ∧ Below w.heap.size w w') := fun w => by
    have := ofBytes_any (bytesOf ls) (bytesOf_len _) hBw w
    rw [line_bytes _ hl1 (wfs_u64 hl2), hdi] at this
    exact this
  have HBO : Hid (∀ w : World, Calls Try.prog 14 #[.agg (iv .u64 (lineOf bs))] w fun e w' => e = .returned (.agg cs.toArray) ∧ Below w.heap.size w w') := fun w => by
    have := bytes_any (lineOf bs) (lineOf_len _) hLw w
    rw [bytes_line _ hb1 (wfs_u8 hb2), hci] at this
    exact this
  have q1 : ∀ w : World, (Op.equalIn 10000 35 (.agg (iv .u8 (bytesOf ls))) (.agg (iv .u8 (bytesOf ls)))).run Try.prog w = .ok true w := fun w => by
    rw [run_equalIn_ints w 9998 35 5 .u8 64 Try.underlying35 Try.underlying5 (by kernel_rfl) _ _ (bytesOf_len _) (bytesOf_len _)]; simp
  have q2 : ∀ w : World, (Op.equalIn 10000 34 (.agg (iv .u64 (lineOf bs))) (.agg (iv .u64 (lineOf bs)))).run Try.prog w = .ok true w := fun w => by
    rw [run_equalIn_ints w 9998 34 22 .u64 8 Try.underlying34 Try.underlying22 (by kernel_rfl) _ _ (lineOf_len _) (lineOf_len _)]; simp
  have q3 : ∀ w : World, (Op.equalIn 10000 34 (.agg ds.toArray) (.agg ds.toArray)).run Try.prog w = .ok true w := fun w => by
    have := run_equalIn_ints (P := Try.prog) w 9998 34 22 .u64 8 Try.underlying34 Try.underlying22 (by kernel_rfl) ls ls hl1 hl1
    rw [hdi] at this
    rw [this]; simp
  have q4 : ∀ w : World, (Op.equalIn 10000 35 (.agg cs.toArray) (.agg cs.toArray)).run Try.prog w = .ok true w := fun w => by
    have := run_equalIn_ints (P := Try.prog) w 9998 35 5 .u8 64 Try.underlying35 Try.underlying5 (by kernel_rfl) bs bs hb1 hb1
    rw [hci] at this
    rw [this]; simp
  have hm1 : Try.prog.eqGuardType Try.prog.depth 35 = false := by kernel_rfl
  have hm2 : Try.prog.eqGuardType Try.prog.depth 34 = false := by kernel_rfl
  have Q1 := hide q1
  have Q2 := hide q2
  have Q3 := hide q3
  have Q4 := hide q4
  clear q1 q2 q3 q4
  clear hBw hLw hcs hci hds hdi hl1 hl2 hb1 hb2
  obtain ⟨W0, hW0⟩ : ∃ W0 : World, W0 = (W.alloc (.cells ds.toArray 34)).alloc (.cells cs.toArray 35) := ⟨_, rfl⟩
  have Hsz : Hid (W0.heap.size = W.heap.size + 1 + 1) := by show _ = _; rw [hW0]; simp
  have Hbel : Hid (Below W.heap.size W W0) := by rw [hW0]; exact below_alloc2 _ _ _
  have g0 : W0.heap[W.heap.size]? = some (.cells ds.toArray 34 (0, 0)) := by rw [hW0, Below.heap_alloc _ _ _ (by simp), heap_new]
  have g1 : W0.heap[W.heap.size + 1]? = some (.cells cs.toArray 35 (0, 0)) := by
    rw [hW0]
    have := heap_new (W.alloc (.cells ds.toArray 34)) (.cells cs.toArray 35)
    simpa using this
  have HS0 : Hid ((fun w' : World => Below (W.heap.size + 1 + 1) W0 w' ∧ w'.rangeAt W.heap.size 0 ds ∧ w'.rangeAt (W.heap.size + 1) 0 cs) W0.drew) := by
    refine ⟨(Below.refl _ _).drew, ?_, ?_⟩
    · intro j v hv
      show W0.cell? _ = _
      rw [cell_of_block g0, Nat.zero_add]; simpa using hv
    · intro j v hv
      show W0.cell? _ = _
      rw [cell_of_block g1, Nat.zero_add]; simpa using hv
  have Hk : Hid (∀ w' w'' : World, (Below (W.heap.size + 1 + 1) W0 w' ∧ w'.rangeAt W.heap.size 0 ds ∧ w'.rangeAt (W.heap.size + 1) 0 cs) → Below w'.heap.size w' w'' → (fun w' : World => Below (W.heap.size + 1 + 1) W0 w' ∧ w'.rangeAt W.heap.size 0 ds ∧ w'.rangeAt (W.heap.size + 1) 0 cs) w'') := by
    rintro w' w'' ⟨h1, h2, h3⟩ hb
    have h4 := h1.size
    rw [unhide Hsz] at h4
    exact ⟨h1.trans (hb.mono h4), range_below hb (by omega) h2, range_below hb (by omega) h3⟩
  have HW0 := hide hW0
  clear g0 g1 hW0
  go_enter Try.func6, Try.ntmps6
  go_wp2_with fail
  refine (shown_any _).mono ?_
  rintro e w' ⟨rfl, rfl⟩
  go_wp2_with fail
  rw [← unhide HW0]
  refine wp_region_noPanic ?_
  refine wp_region_held_drew (S := fun w' => Below (W.heap.size + 1 + 1) W0 w' ∧ w'.rangeAt W.heap.size 0 ds ∧ w'.rangeAt (W.heap.size + 1) 0 cs) (by kernel_rfl) (unhide HS0) (fun hHeld => ?_)
  refine take_at 0 7 (v := ?_) rfl rfl (by kernel_rfl) (by kernel_rfl) (by kernel_rfl) (Or.inl ⟨by rfl, ?_⟩) hHeld ?_
  rotate_left
  · intro w hSw; go_simp; with_reducible rfl
  simp only [Act.put, List.setIfInBounds_toArray, List.set_cons_zero, List.set_cons_succ]
  refine take_at 1 8 (v := ?_) rfl rfl (by kernel_rfl) (by kernel_rfl) (by kernel_rfl) (Or.inl ⟨by rfl, ?_⟩) hHeld ?_
  rotate_left
  · intro w hSw; go_simp; with_reducible rfl
  simp only [Act.put, List.setIfInBounds_toArray, List.set_cons_zero, List.set_cons_succ]
  refine take_at 2 9 rfl rfl (by kernel_rfl) (by kernel_rfl) (by kernel_rfl) (yieldsIf_load_mid (by rfl) 34 _ rfl W.heap.size 0 rfl ds _ (fun w h => h.2.1) Try.underlying34 rfl hj) hHeld ?_
  simp only [Act.put, List.setIfInBounds_toArray, List.set_cons_zero, List.set_cons_succ]
  refine take_at 4 11 rfl rfl (by kernel_rfl) (by kernel_rfl) (by kernel_rfl) (yieldsIf_load_mid (by rfl) 34 _ rfl W.heap.size 0 rfl ds _ (fun w h => h.2.1) Try.underlying34 rfl hj) hHeld ?_
  simp only [Act.put, List.setIfInBounds_toArray, List.set_cons_zero, List.set_cons_succ]
  refine wpAnyH_ready (rs := [3]) (by kernel_rfl) (by simp) ?_
  refine AllReadyH.cons rfl (fun K hK => ?_) AllReadyH.nil
  go_simp
  refine (unhide HB _).mono ?_
  rintro e w' ⟨rfl, hbx⟩
  go_wp2_with fail
  refine hK.out _ _ (unhide Hk _ _ hHeld hbx) (fun hNew => ?_)
  clear hK K hHeld hbx
  have hHeld := hNew
  clear hNew
  refine wpAnyH_ready (rs := [5]) (by kernel_rfl) (by simp) ?_
  refine AllReadyH.cons rfl (fun K hK => ?_) AllReadyH.nil
  go_simp
  refine (unhide HR _).mono ?_
  rintro e w' ⟨rfl, hbx⟩
  go_wp2_with fail
  refine hK.out _ _ (unhide Hk _ _ hHeld hbx) (fun hNew => ?_)
  clear hK K hHeld hbx
  have hHeld := hNew
  clear hNew
  refine take_at 6 13 rfl rfl (by kernel_rfl) (by kernel_rfl) (by kernel_rfl) (yieldsIf_eql (by rfl) 35 35 _ _ rfl (iv .u8 (bytesOf ls)) (iv .u8 (bytesOf ls)) rfl rfl hm1 true (unhide Q1)) hHeld ?_
  simp only [Act.put, List.setIfInBounds_toArray, List.set_cons_zero, List.set_cons_succ]
  refine take_at 7 14 (v := ?_) rfl rfl (by kernel_rfl) (by kernel_rfl) (by kernel_rfl) (Or.inl ⟨by rfl, ?_⟩) hHeld ?_
  rotate_left
  · intro w hSw; go_simp; with_reducible rfl
  simp only [Act.put, List.setIfInBounds_toArray, List.set_cons_zero, List.set_cons_succ]
  refine take_at 8 15 (v := ?_) rfl rfl (by kernel_rfl) (by kernel_rfl) (by kernel_rfl) (Or.inl ⟨by rfl, ?_⟩) hHeld ?_
  rotate_left
  · intro w hSw; go_simp; with_reducible rfl
  simp only [Act.put, List.setIfInBounds_toArray, List.set_cons_zero, List.set_cons_succ]
  refine take_at 9 16 rfl rfl (by kernel_rfl) (by kernel_rfl) (by kernel_rfl) (yieldsIf_load_mid (by rfl) 35 _ rfl (W.heap.size + 1) 0 rfl cs _ (fun w h => h.2.2) Try.underlying35 rfl hi) hHeld ?_
  simp only [Act.put, List.setIfInBounds_toArray, List.set_cons_zero, List.set_cons_succ]
  refine take_at 11 18 rfl rfl (by kernel_rfl) (by kernel_rfl) (by kernel_rfl) (yieldsIf_load_mid (by rfl) 35 _ rfl (W.heap.size + 1) 0 rfl cs _ (fun w h => h.2.2) Try.underlying35 rfl hi) hHeld ?_
  simp only [Act.put, List.setIfInBounds_toArray, List.set_cons_zero, List.set_cons_succ]
  refine wpAnyH_ready (rs := [10]) (by kernel_rfl) (by simp) ?_
  refine AllReadyH.cons rfl (fun K hK => ?_) AllReadyH.nil
  go_simp
  refine (unhide HO _).mono ?_
  rintro e w' ⟨rfl, hbx⟩
  go_wp2_with fail
  refine hK.out _ _ (unhide Hk _ _ hHeld hbx) (fun hNew => ?_)
  clear hK K hHeld hbx
  have hHeld := hNew
  clear hNew
  refine wpAnyH_ready (rs := [12]) (by kernel_rfl) (by simp) ?_
  refine AllReadyH.cons rfl (fun K hK => ?_) AllReadyH.nil
  go_simp
  refine (unhide HQ _).mono ?_
  rintro e w' ⟨rfl, hbx⟩
  go_wp2_with fail
  refine hK.out _ _ (unhide Hk _ _ hHeld hbx) (fun hNew => ?_)
  clear hK K hHeld hbx
  have hHeld := hNew
  clear hNew
  refine take_at 13 20 rfl rfl (by kernel_rfl) (by kernel_rfl) (by kernel_rfl) (yieldsIf_eql (by rfl) 34 34 _ _ rfl (iv .u64 (lineOf bs)) (iv .u64 (lineOf bs)) rfl rfl hm2 true (unhide Q2)) hHeld ?_
  simp only [Act.put, List.setIfInBounds_toArray, List.set_cons_zero, List.set_cons_succ]
  refine take_at 14 21 (v := ?_) rfl rfl (by kernel_rfl) (by kernel_rfl) (by kernel_rfl) (Or.inl ⟨by rfl, ?_⟩) hHeld ?_
  rotate_left
  · intro w hSw; go_simp; with_reducible rfl
  simp only [Act.put, List.setIfInBounds_toArray, List.set_cons_zero, List.set_cons_succ]
  refine take_at 15 22 (v := ?_) rfl rfl (by kernel_rfl) (by kernel_rfl) (by kernel_rfl) (Or.inl ⟨by rfl, ?_⟩) hHeld ?_
  rotate_left
  · intro w hSw; go_simp; with_reducible rfl
  simp only [Act.put, List.setIfInBounds_toArray, List.set_cons_zero, List.set_cons_succ]
  refine take_at 16 23 rfl rfl (by kernel_rfl) (by kernel_rfl) (by kernel_rfl) (yieldsIf_load_mid (by rfl) 34 _ rfl W.heap.size 0 rfl ds _ (fun w h => h.2.1) Try.underlying34 rfl hj) hHeld ?_
  simp only [Act.put, List.setIfInBounds_toArray, List.set_cons_zero, List.set_cons_succ]
  refine take_at 19 26 rfl rfl (by kernel_rfl) (by kernel_rfl) (by kernel_rfl) (yieldsIf_load_mid (by rfl) 34 _ rfl W.heap.size 0 rfl ds _ (fun w h => h.2.1) Try.underlying34 rfl hj) hHeld ?_
  simp only [Act.put, List.setIfInBounds_toArray, List.set_cons_zero, List.set_cons_succ]
  refine wpAnyH_ready (rs := [17]) (by kernel_rfl) (by simp) ?_
  refine AllReadyH.cons rfl (fun K hK => ?_) AllReadyH.nil
  go_simp
  refine (unhide HB _).mono ?_
  rintro e w' ⟨rfl, hbx⟩
  go_wp2_with fail
  refine hK.out _ _ (unhide Hk _ _ hHeld hbx) (fun hNew => ?_)
  clear hK K hHeld hbx
  have hHeld := hNew
  clear hNew
  refine wpAnyH_ready (rs := [18]) (by kernel_rfl) (by simp) ?_
  refine AllReadyH.cons rfl (fun K hK => ?_) AllReadyH.nil
  go_simp
  refine (unhide HOB _).mono ?_
  rintro e w' ⟨rfl, hbx⟩
  go_wp2_with fail
  refine hK.out _ _ (unhide Hk _ _ hHeld hbx) (fun hNew => ?_)
  clear hK K hHeld hbx
  have hHeld := hNew
  clear hNew
  refine take_at 20 27 rfl rfl (by kernel_rfl) (by kernel_rfl) (by kernel_rfl) (yieldsIf_eql (by rfl) 34 34 _ _ rfl ds.toArray ds.toArray rfl rfl hm2 true (unhide Q3)) hHeld ?_
  simp only [Act.put, List.setIfInBounds_toArray, List.set_cons_zero, List.set_cons_succ]
  refine take_at 21 28 (v := ?_) rfl rfl (by kernel_rfl) (by kernel_rfl) (by kernel_rfl) (Or.inl ⟨by rfl, ?_⟩) hHeld ?_
  rotate_left
  · intro w hSw; go_simp; with_reducible rfl
  simp only [Act.put, List.setIfInBounds_toArray, List.set_cons_zero, List.set_cons_succ]
  refine take_at 22 29 (v := ?_) rfl rfl (by kernel_rfl) (by kernel_rfl) (by kernel_rfl) (Or.inl ⟨by rfl, ?_⟩) hHeld ?_
  rotate_left
  · intro w hSw; go_simp; with_reducible rfl
  simp only [Act.put, List.setIfInBounds_toArray, List.set_cons_zero, List.set_cons_succ]
  refine take_at 23 30 rfl rfl (by kernel_rfl) (by kernel_rfl) (by kernel_rfl) (yieldsIf_load_mid (by rfl) 35 _ rfl (W.heap.size + 1) 0 rfl cs _ (fun w h => h.2.2) Try.underlying35 rfl hi) hHeld ?_
  simp only [Act.put, List.setIfInBounds_toArray, List.set_cons_zero, List.set_cons_succ]
  refine take_at 26 33 rfl rfl (by kernel_rfl) (by kernel_rfl) (by kernel_rfl) (yieldsIf_load_mid (by rfl) 35 _ rfl (W.heap.size + 1) 0 rfl cs _ (fun w h => h.2.2) Try.underlying35 rfl hi) hHeld ?_
  simp only [Act.put, List.setIfInBounds_toArray, List.set_cons_zero, List.set_cons_succ]
  refine wpAnyH_ready (rs := [24]) (by kernel_rfl) (by simp) ?_
  refine AllReadyH.cons rfl (fun K hK => ?_) AllReadyH.nil
  go_simp
  refine (unhide HO _).mono ?_
  rintro e w' ⟨rfl, hbx⟩
  go_wp2_with fail
  refine hK.out _ _ (unhide Hk _ _ hHeld hbx) (fun hNew => ?_)
  clear hK K hHeld hbx
  have hHeld := hNew
  clear hNew
  refine wpAnyH_ready (rs := [25]) (by kernel_rfl) (by simp) ?_
  refine AllReadyH.cons rfl (fun K hK => ?_) AllReadyH.nil
  go_simp
  refine (unhide HBO _).mono ?_
  rintro e w' ⟨rfl, hbx⟩
  go_wp2_with fail
  refine hK.out _ _ (unhide Hk _ _ hHeld hbx) (fun hNew => ?_)
  clear hK K hHeld hbx
  have hHeld := hNew
  clear hNew
  refine take_at 27 34 rfl rfl (by kernel_rfl) (by kernel_rfl) (by kernel_rfl) (yieldsIf_eql (by rfl) 35 35 _ _ rfl cs.toArray cs.toArray rfl rfl hm1 true (unhide Q4)) hHeld ?_
  simp only [Act.put, List.setIfInBounds_toArray, List.set_cons_zero, List.set_cons_succ]
  refine take_at 28 35 (v := ?_) rfl rfl (by kernel_rfl) (by kernel_rfl) (by kernel_rfl) (Or.inl ⟨by rfl, ?_⟩) hHeld ?_
  rotate_left
  · intro w hSw; go_simp; with_reducible rfl
  simp only [Act.put, List.setIfInBounds_toArray, List.set_cons_zero, List.set_cons_succ]
  refine take_at 29 4 (v := ?_) rfl rfl (by kernel_rfl) (by kernel_rfl) (by kernel_rfl) (Or.inl ⟨by rfl, ?_⟩) hHeld ?_
  rotate_left
  · intro w hSw; go_simp; with_reducible rfl
  simp only [Act.put, List.setIfInBounds_toArray, List.set_cons_zero, List.set_cons_succ]
  refine wpAnyH_done (by kernel_rfl) ?_ _
  refine NoPanic.normal ?_
  go_wp2_with fail
  go_ret
  exact ⟨rfl, (unhide Hbel).trans ((hHeld.1).mono (by omega))⟩

theorem open_ints8 {H : Type} {enc : TypeId × Value → H} {W : World} {r : Reach} {b0 base : Nat} {sp : Nat → Bool} {hd : Bool} {v : Value} {d : DataW H} {p : List MemPlace}
    (hv : Value.okWide Try.prog W r b0 34 v) (h : DataW.Trod enc Try.prog W base sp hd 34 v d p) :
    ∃ zs : List Int, v = .agg (iv .u64 zs) ∧ (zs.length = 8 ∧ ∀ z ∈ zs, (Lit.int .u64 z).wf = true) := by
  obtain ⟨cs, rfl, hfit⟩ := flat_open 3 (ks := List.replicate 8 (some .u64)) (by kernel_rfl) (Or.inr ⟨_, _, Try.underlying34⟩) hv h
  obtain ⟨zs, hl, hz, hw⟩ := allFit_ints .u64 8 cs.toList hfit
  exact ⟨zs, by rw [iv, ← hz], hl, hw⟩
theorem open_bytes64 {H : Type} {enc : TypeId × Value → H} {W : World} {r : Reach} {b0 base : Nat} {sp : Nat → Bool} {hd : Bool} {v : Value} {d : DataW H} {p : List MemPlace}
    (hv : Value.okWide Try.prog W r b0 35 v) (h : DataW.Trod enc Try.prog W base sp hd 35 v d p) :
    ∃ zs : List Int, v = .agg (iv .u8 zs) ∧ (zs.length = 64 ∧ ∀ z ∈ zs, (Lit.int .u8 z).wf = true) := by
  obtain ⟨cs, rfl, hfit⟩ := flat_open 3 (ks := List.replicate 64 (some .u8)) (by kernel_rfl) (Or.inr ⟨_, _, Try.underlying35⟩) hv h
  obtain ⟨zs, hl, hz, hw⟩ := allFit_ints .u8 64 cs.toList hfit
  exact ⟨zs, by rw [iv, ← hz], hl, hw⟩

set_option maxRecDepth 100000 in
theorem lifted (os : Os) (started : os.Started) (H : Type) (enc : TypeId × Value → H) :
    ReturnsInHanded {} Try.checked os 6 .any (Rows.wordBytesSpec.pre6 enc Try.prog Try.f6 Rows.wordBytesRow.domain false) (Rows.wordBytesSpec.post enc Try.prog Try.f6 false true false false) := by
  refine law_frame (C := Try.checked) (ts := [34, 35]) (tb := 4) (by kernel_rfl) started (by kernel_rfl) Try.func6 Try.params6 (by kernel_rfl) Try.underlying4 (by kernel_rfl) (by kernel_rfl) rfl ?_
    (ChangeSpec.witness6 (enc := enc) (C := Try.checked) false ⟨#[], #[.agg (iv .u64 (List.replicate 8 0)), .agg (iv .u8 (List.replicate 64 0))], []⟩ 8 (by kernel_rfl) (by kernel_rfl) (by kernel_rfl) (by kernel_rfl)) ?_
  · intro ds hd
    match ds, hd with
    | [d0, d1], _ => rfl
  · intro W base args ds p hval hA
    obtain ⟨v0, vs0, d0, ds0, p0, q0, hargs, rfl, rfl, h0, r0⟩ := trodAll_cons hA
    obtain ⟨v1, vs1, d1, ds1, p1, q1, rfl, rfl, rfl, h1, r1⟩ := trodAll_cons r0
    obtain ⟨rfl, rfl, rfl⟩ := trodAll_nil r1
    obtain rfl : args = #[v0, v1] := by cases args; simp_all
    obtain ⟨ls, rfl, hls⟩ := open_ints8 (hval 0 34 v0 rfl rfl) h0
    obtain ⟨bs, rfl, hbs⟩ := open_bytes64 (hval 1 35 v1 rfl rfl) h1
    exact walk ls bs hls hbs W

theorem over : Rows.wordBytesRow.holds Try.pinned (OpenSpec.ofChange Rows.wordBytesSpec) :=
  OpenClaim.holds_of_wide 6 Try.f6 rfl rfl rfl rfl rfl rfl rfl ⟨rfl, rfl, rfl, rfl, rfl⟩ rfl rfl rfl rfl rfl (by kernel_rfl) Try.func6 (by kernel_rfl)
    (of_decide_eq_true (by kernel_rfl)) (by unfold Func.isWrapper; first | (rw [if_pos (by decide +kernel)]; kernel_rfl) | (rw [if_neg (by decide +kernel)]; exact ⟨rfl, rfl⟩))
    (fun os started H enc _ => lifted os started H enc)

end Go.Proofs.Ytjdhhnjocfjalaa.wordBytes
namespace Go.Proofs.Ytjdhhnjocfjalaa
theorem wordBytes_holds : Rows.WordBytesSaid := wordBytes.over
end Go.Proofs.Ytjdhhnjocfjalaa
