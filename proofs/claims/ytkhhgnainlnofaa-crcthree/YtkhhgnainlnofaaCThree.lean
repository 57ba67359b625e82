/-
  For every three rows of bytes, CrcThree returns true and leaves its arguments as they were: the sums of three rows of the same length, laid over one another, are the sum of the rows laid over one another. No condition.
-/
import Derived.Test.YtkhhgnainlnofaaCShown
import Derived.Test.YtkhhgnainlnofaaLaw
import Derived.Deep.RegionHeld3
import Derived.Deep.QuietTactic
import Derived.BigQuiet
namespace Go.Proofs.Ytkhhgnainlnofaa.crcThree
open Go.ChangeShapes Go.WideShapes Go.ChangeAt Go.RowKit Go.Joins
set_option linter.unusedVariables false

set_option maxHeartbeats 2000000 in
theorem walk (W : World) (a : Option Addr) (as' : List Int) (na ca : Nat) (b : Option Addr) (bs : List Int) (nb cb : Nat) (c : Option Addr) (cs : List Int) (nc cc : Nat) (ha : IsBytes W a as' na ca) (hb : IsBytes W b bs nb cb) (hc : IsBytes W c cs nc cc) :
    Calls Try.prog 7 #[.slice a na ca, .slice b nb cb, .slice c nc cc] W fun e W' => e = .returned (.bool true) ∧ Below W.heap.size W W' := by
  obtain ⟨xs, m, hxs, ⟨c1, -, -, -, -, -⟩, m300, hfa⟩ := few_of ha
  obtain ⟨ys, k, hys, ⟨d1, -, -, -, -, -⟩, k300, hfb⟩ := few_of hb
  obtain ⟨zs, l, hzs, ⟨e1, -, -, -, -, -⟩, l300, hfc⟩ := few_of hc
  obtain ⟨a1, a2, a3, a4, a5, -⟩ := ha
  obtain ⟨b1, b2, b3, b4, b5, -⟩ := hb
  obtain ⟨g1, g2, g3, g4, g5, -⟩ := hc
  have hm : m ≤ na := by rw [hxs, List.length_take] at c1; omega
  have hk : k ≤ nb := by rw [hys, List.length_take] at d1; omega
  have hl : l ≤ nc := by rw [hzs, List.length_take] at e1; omega
  have HA := hide hfa
  have HB := hide hfb
  have HC := hide hfc
  have A1 := hide a1
  have A2 := hide a2
  have A3 := hide a3
  have B1 := hide b1
  have B2 := hide b2
  have B3 := hide b3
  have G1 := hide g1
  have G2 := hide g2
  have G3 := hide g3
  clear hfa hfb hfc a1 a2 a3 b1 b2 b3 g1 g2 g3 c1 d1 e1 hxs hys hzs
  clear xs ys zs
  obtain ⟨n, hn1, hn2, hn3, hn⟩ : ∃ n : Nat, n ≤ m ∧ n ≤ k ∧ n ≤ l ∧ n = (if l < (if k < m then k else m) then l else (if k < m then k else m)) := by
    refine ⟨_, ?_, ?_, ?_, rfl⟩ <;> split <;> split at * <;> omega
  have hmin : ∀ (w : World) (ts : Array TypeId) (t : TypeId), (Builtin.min_ ts t #[.int .i64 (m : Int), .int .i64 (k : Int), .int .i64 (l : Int)]).run Try.prog w = .ok (.int .i64 (n : Int)) w := fun w ts t => by
    rw [run_min_int3, hn]
    congr 2
    by_cases h1 : k < m
    · rw [if_pos h1, if_pos (by omega : (k : Int) < m)]
      by_cases h2 : l < k
      · rw [if_pos h2, if_pos (by omega)]
      · rw [if_neg h2, if_neg (by omega)]
    · rw [if_neg h1, if_neg (by omega : ¬ (k : Int) < m)]
      by_cases h2 : l < m
      · rw [if_pos h2, if_pos (by omega)]
      · rw [if_neg h2, if_neg (by omega)]
  clear hn
  go_enter Try.func7, Try.ntmps7
  go_wp2_with fail
  refine (shown_any _).mono ?_
  rintro e w1 ⟨rfl, hb1⟩
  have Hb1 := hide hb1
  clear hb1
  go_wp2_with fail
  refine (unhide HA _ _ (Nat.le_refl _) (unhide Hb1)).mono ?_
  rintro e w1 ⟨rfl, rfl⟩
  go_wp2_with fail
  refine (unhide HB _ _ (Nat.le_refl _) (unhide Hb1)).mono ?_
  rintro e w1 ⟨rfl, rfl⟩
  go_wp2_with fail
  refine (unhide HC _ _ (Nat.le_refl _) (unhide Hb1)).mono ?_
  rintro e w1 ⟨rfl, rfl⟩
  go_wp2_with fail
  have hB1 : W.heap.size ≤ w1.heap.size := (unhide Hb1).size
  have Hb2 : Hid (Below W.heap.size W (w1.alloc (.cells #[] 5))) := (unhide Hb1).alloc hB1 _
  have O2 : Hid ((w1.alloc (.cells #[] 5)).ownsRow W.heap.size 5 1 (.slice (some ⟨w1.heap.size, 0, none⟩) 0 0) 0 (([] : List Int).map (Value.int .u8))) := World.ownsRow_lit (base := W.heap.size) (e := 5) (size := 1) w1 #[] 0 hB1 (by decide) rfl
  have hn300 : n ≤ 300 := by omega
  go_loopw [9, 10] (fun v i wr => ∃ j : Nat, j ≤ n ∧ i = .int .i64 j ∧ Below W.heap.size W wr ∧ wr.ownsRow W.heap.size 5 1 v j ((xor3 as' bs cs j).map (Value.int .u8)) ∧ v ≠ .slice none 0 0) (fun _ i _ => n - (intOf i).toNat)
  case atStart => exact ⟨0, by omega, rfl, unhide Hb2, unhide O2, by simp⟩
  case round =>
    clear Hb2 O2 HA HB HC Hb1 hmin
    obtain ⟨j, hj, rfl, hbr, hown, hvn⟩ := hrel
    obtain ⟨g, cap2, rfl, lg, lgs, l2, l3, l4, l1, l5⟩ := lies_own_some hown hvn
    have O := hide hown
    have HB4 := hide hbr
    have L1 := hide l1
    have L2 := hide l2
    clear hown hbr hvn l1 l2 l5
    by_cases hlt : j < n
    · obtain ⟨ba, oa, rfl, hca⟩ : ∃ ba oa, a = some ⟨ba, oa, none⟩ ∧ ∀ w' : World, Below W.heap.size W w' → w'.cell? ⟨ba, oa + j, none⟩ = some (.int .u8 (as'.getD j 0)) := lies_at (unhide A2) j (by have := unhide A1; omega)
      obtain ⟨bb, ob, rfl, hcb⟩ : ∃ ba oa, b = some ⟨ba, oa, none⟩ ∧ ∀ w' : World, Below W.heap.size W w' → w'.cell? ⟨ba, oa + j, none⟩ = some (.int .u8 (bs.getD j 0)) := lies_at (unhide B2) j (by have := unhide B1; omega)
      obtain ⟨bc, oc, rfl, hcc⟩ : ∃ ba oa, c = some ⟨ba, oa, none⟩ ∧ ∀ w' : World, Below W.heap.size W w' → w'.cell? ⟨ba, oa + j, none⟩ = some (.int .u8 (cs.getD j 0)) := lies_at (unhide G2) j (by have := unhide G1; omega)
      have ra := b8_get (unhide A3) j
      have rb := b8_get (unhide B3) j
      have rc := b8_get (unhide G3) j
      have HX : Hid (bits .xor .u8 (bits .xor .u8 (as'.getD j 0) (bs.getD j 0)) (cs.getD j 0) = (((as'.getD j 0).toNat ^^^ (bs.getD j 0).toNat ^^^ (cs.getD j 0).toNat : Nat) : Int)) := xor8_three ra rb rc
      have HN : Hid (xor3 as' bs cs (j + 1) = xor3 as' bs cs j ++ [(((as'.getD j 0).toNat ^^^ (bs.getD j 0).toNat ^^^ (cs.getD j 0).toNat : Nat) : Int)]) := rfl
      have CA := hide hca
      have CB := hide hcb
      have CC := hide hcc
      clear hca hcb hcc ra rb rc
      generalize as'.getD j 0 = xa at *
      generalize bs.getD j 0 = xb at *
      generalize cs.getD j 0 = xc at *
      have ja : (j : Int) < (na : Int) := by omega
      have jb : (j : Int) < (nb : Int) := by omega
      have jc : (j : Int) < (nc : Int) := by omega
      go_wp2_with fail
      refine wp_region_noPanic ?_
      refine wp_region_held_drew (S := fun w' => Below W.heap.size W w') (by kernel_rfl) ((unhide HB4).drew) (fun hHeld => ?_)
      refine take_at 0 28 (v := ?_) rfl rfl (by kernel_rfl) (by kernel_rfl) (by kernel_rfl) (Or.inl ⟨by rfl, ?_⟩) hHeld ?_
      rotate_left
      · intro w hSw; go_simp; with_reducible rfl
      simp only [Act.put, List.setIfInBounds_toArray, List.set_cons_zero, List.set_cons_succ]
      refine take_at 1 29 (v := ?_) rfl rfl (by kernel_rfl) (by kernel_rfl) (by kernel_rfl) (Or.inl ⟨by rfl, ?_⟩) hHeld ?_
      rotate_left
      · intro w hSw; go_simp; with_reducible rfl
      simp only [Act.put, List.setIfInBounds_toArray, List.set_cons_zero, List.set_cons_succ]
      refine take_at 2 30 (v := ?_) rfl rfl (by kernel_rfl) (by kernel_rfl) (by kernel_rfl) (Or.inl ⟨by rfl, ?_⟩) hHeld ?_
      rotate_left
      · intro w hSw; go_simp; with_reducible rfl
      simp only [Act.put, List.setIfInBounds_toArray, List.set_cons_zero, List.set_cons_succ]
      refine take_at 3 31 (v := ?_) rfl rfl (by kernel_rfl) (by kernel_rfl) (by kernel_rfl) (Or.inl ⟨by rfl, ?_⟩) hHeld ?_
      rotate_left
      · intro w hSw; go_simp; with_reducible rfl
      simp only [Act.put, List.setIfInBounds_toArray, List.set_cons_zero, List.set_cons_succ]
      refine take_at 4 32 (v := ?_) rfl rfl (by kernel_rfl) (by kernel_rfl) (by kernel_rfl) (Or.inl ⟨by rfl, ?_⟩) hHeld ?_
      rotate_left
      · intro w hSw; have f := unhide CA w hSw; go_simp; with_reducible rfl
      simp only [Act.put, List.setIfInBounds_toArray, List.set_cons_zero, List.set_cons_succ]
      refine take_at 5 33 (v := ?_) rfl rfl (by kernel_rfl) (by kernel_rfl) (by kernel_rfl) (Or.inl ⟨by rfl, ?_⟩) hHeld ?_
      rotate_left
      · intro w hSw; go_simp; with_reducible rfl
      simp only [Act.put, List.setIfInBounds_toArray, List.set_cons_zero, List.set_cons_succ]
      refine take_at 6 34 (v := ?_) rfl rfl (by kernel_rfl) (by kernel_rfl) (by kernel_rfl) (Or.inl ⟨by rfl, ?_⟩) hHeld ?_
      rotate_left
      · intro w hSw; go_simp; with_reducible rfl
      simp only [Act.put, List.setIfInBounds_toArray, List.set_cons_zero, List.set_cons_succ]
      refine take_at 7 35 (v := ?_) rfl rfl (by kernel_rfl) (by kernel_rfl) (by kernel_rfl) (Or.inl ⟨by rfl, ?_⟩) hHeld ?_
      rotate_left
      · intro w hSw; go_simp; with_reducible rfl
      simp only [Act.put, List.setIfInBounds_toArray, List.set_cons_zero, List.set_cons_succ]
      refine take_at 8 36 (v := ?_) rfl rfl (by kernel_rfl) (by kernel_rfl) (by kernel_rfl) (Or.inl ⟨by rfl, ?_⟩) hHeld ?_
      rotate_left
      · intro w hSw; have f := unhide CB w hSw; go_simp; with_reducible rfl
      simp only [Act.put, List.setIfInBounds_toArray, List.set_cons_zero, List.set_cons_succ]
      refine take_at 9 37 (v := ?_) rfl rfl (by kernel_rfl) (by kernel_rfl) (by kernel_rfl) (Or.inl ⟨by rfl, ?_⟩) hHeld ?_
      rotate_left
      · intro w hSw; go_simp; with_reducible rfl
      simp only [Act.put, List.setIfInBounds_toArray, List.set_cons_zero, List.set_cons_succ]
      refine take_at 10 38 (v := ?_) rfl rfl (by kernel_rfl) (by kernel_rfl) (by kernel_rfl) (Or.inl ⟨by rfl, ?_⟩) hHeld ?_
      rotate_left
      · intro w hSw; go_simp; with_reducible rfl
      simp only [Act.put, List.setIfInBounds_toArray, List.set_cons_zero, List.set_cons_succ]
      refine take_at 11 39 (v := ?_) rfl rfl (by kernel_rfl) (by kernel_rfl) (by kernel_rfl) (Or.inl ⟨by rfl, ?_⟩) hHeld ?_
      rotate_left
      · intro w hSw; go_simp; with_reducible rfl
      simp only [Act.put, List.setIfInBounds_toArray, List.set_cons_zero, List.set_cons_succ]
      refine take_at 12 40 (v := ?_) rfl rfl (by kernel_rfl) (by kernel_rfl) (by kernel_rfl) (Or.inl ⟨by rfl, ?_⟩) hHeld ?_
      rotate_left
      · intro w hSw; go_simp; with_reducible rfl
      simp only [Act.put, List.setIfInBounds_toArray, List.set_cons_zero, List.set_cons_succ]
      refine take_at 13 41 (v := ?_) rfl rfl (by kernel_rfl) (by kernel_rfl) (by kernel_rfl) (Or.inl ⟨by rfl, ?_⟩) hHeld ?_
      rotate_left
      · intro w hSw; have f := unhide CC w hSw; go_simp; with_reducible rfl
      simp only [Act.put, List.setIfInBounds_toArray, List.set_cons_zero, List.set_cons_succ]
      refine take_at 14 42 (v := ?_) rfl rfl (by kernel_rfl) (by kernel_rfl) (by kernel_rfl) (Or.inl ⟨by rfl, ?_⟩) hHeld ?_
      rotate_left
      · intro w hSw; go_simp; with_reducible rfl
      simp only [Act.put, List.setIfInBounds_toArray, List.set_cons_zero, List.set_cons_succ]
      refine wpAnyH_ready (rs := [15]) (by kernel_rfl) (by simp) ?_
      refine AllReadyH.cons rfl (fun K hK => ?_) AllReadyH.nil
      go_simp
      refine hK.out _ _ (((unhide HB4).alloc (unhide HB4).size _).drew) (fun hNew => ?_)
      clear hK K hHeld
      have hHeld := hNew
      clear hNew
      refine wpAnyH_ready (rs := [16]) (by kernel_rfl) (by simp) ?_
      refine AllReadyH.cons rfl (fun K hK => ?_) AllReadyH.nil
      obtain ⟨i0, hi, hz0, hz1, hz2⟩ := info_parts info8
      refine (if_pos (by rfl)).mpr ?_
      refine wp_append_own _ (.tmp 28) (.tmp 43) 22 rfl W.heap.size 5 i0 (.int .u8 0) 1 1 Try.underlying22 hi hz0 hz1 hz2 rfl (by decide) (.slice (some ⟨g, 0, none⟩) j cap2) j _ rfl (((unhide O).alloc _).drew) ⟨wr.heap.size, 0, none⟩ 1 1 [.int .u8 (bits .xor .u8 (bits .xor .u8 xa xb) xc)] rfl rfl ?c1 ?c2 ?c3 ?c4 ?c5 ?_
      case c1 =>
        intro jj u hjj
        match jj, hjj with
        | 0, hjj =>
          simp at hjj; subst hjj
          rw [add_none]
          show (wr.alloc _).cell? _ = _
          rw [cell_of_block (heap_new wr _)]; rfl
      case c2 => intro u hu; simp at hu; subst hu; rfl
      case c3 => unfold maxLen; omega
      case c4 => omega
      case c5 => have := (unhide HB4).size; show _ ≤ (wr.alloc _).heap.size; simp; omega
      intro v' w2 hown' hgr hnil
      have hown2 : w2.ownsRow W.heap.size 5 1 v' (j + 1) ((xor3 as' bs cs (j + 1)).map (Value.int .u8)) := by
        rw [unhide HN, List.map_append, ← unhide HX]; exact hown'
      have hb2 : Below W.heap.size W w2 := hHeld.trans (below_grown (((unhide O).alloc _).drew) hHeld.size hgr)
      have hv2 : v' ≠ .slice none 0 0 := fun h => by have := hnil.1 h; simp at this
      have OO := hide hown2
      have VV := hide hv2
      clear hown' hgr hnil hown2 hv2 hi hz0 hz1 hz2 i0
      refine hK.out _ _ hb2 (fun hNew => ?_)
      clear hK K hHeld hb2
      have hHeld := hNew
      clear hNew
      simp only [Act.put, List.setIfInBounds_toArray]
      refine take_at 17 9 (v := ?_) rfl rfl (by kernel_rfl) (by kernel_rfl) (by kernel_rfl) (Or.inl ⟨by rfl, ?_⟩) hHeld ?_
      rotate_left
      · intro w hSw; go_simp; with_reducible rfl
      simp only [Act.put]
      refine wpAnyH_done (by kernel_rfl) ?_ _
      refine NoPanic.normal ?_
      go_wp2_with fail
      go_roundw
      case rel => exact ⟨j + 1, by omega, by go_num, hHeld, unhide OO, unhide VV⟩
      case measure => simp [intOf]; omega
    · have hjn : j = n := by omega
      subst hjn
      have LA : Hid (∀ q, Lies (wr.drewN q) a (as'.take j)) := fun q => lies_draws (lies_take (lies_below (unhide A2) (Nat.le_refl _) (unhide HB4)) j) q
      have LB : Hid (∀ q, Lies (wr.drewN q) b (bs.take j)) := fun q => lies_draws (lies_take (lies_below (unhide B2) (Nat.le_refl _) (unhide HB4)) j) q
      have LC : Hid (∀ q, Lies (wr.drewN q) c (cs.take j)) := fun q => lies_draws (lies_take (lies_below (unhide G2) (Nat.le_refl _) (unhide HB4)) j) q
      have LD : Hid (∀ q, Lies (wr.drewN q) (some ⟨g, 0, none⟩) (xor3 as' bs cs j)) := fun q => lies_draws (Or.inr ⟨g, 0, rfl, fun i hi => by rw [Nat.zero_add]; exact unhide L1 i hi⟩) q
      have QA : Hid (∀ q, Calls Try.prog 11 #[.slice a j ca] (wr.drewN q) fun e w' => e = .returned (.int .u32 ((moreN 0 (as'.take j) : Nat) : Int)) ∧ w' = wr.drewN q) := fun q => sum_len a _ j ca (by rw [List.length_take]; have := unhide A1; omega) (b8_take (unhide A3) j) (by omega) _ (unhide LA q)
      have QB : Hid (∀ q, Calls Try.prog 11 #[.slice b j cb] (wr.drewN q) fun e w' => e = .returned (.int .u32 ((moreN 0 (bs.take j) : Nat) : Int)) ∧ w' = wr.drewN q) := fun q => sum_len b _ j cb (by rw [List.length_take]; have := unhide B1; omega) (b8_take (unhide B3) j) (by omega) _ (unhide LB q)
      have QC : Hid (∀ q, Calls Try.prog 11 #[.slice c j cc] (wr.drewN q) fun e w' => e = .returned (.int .u32 ((moreN 0 (cs.take j) : Nat) : Int)) ∧ w' = wr.drewN q) := fun q => sum_len c _ j cc (by rw [List.length_take]; have := unhide G1; omega) (b8_take (unhide G3) j) (by omega) _ (unhide LC q)
      have QD : Hid (∀ q, Calls Try.prog 11 #[.slice (some ⟨g, 0, none⟩) j cap2] (wr.drewN q) fun e w' => e = .returned (.int .u32 ((moreN 0 (xor3 as' bs cs j) : Nat) : Int)) ∧ w' = wr.drewN q) := fun q => sum_len _ _ j cap2 (xor3_len _ _ _ _) (xor3_b8 (unhide A3) (unhide B3) (unhide G3) j) (by omega) _ (unhide LD q)
      have hx : bits .xor .u32 (bits .xor .u32 ((moreN 0 (as'.take j) : Nat) : Int) ((moreN 0 (bs.take j) : Nat) : Int)) ((moreN 0 (cs.take j) : Nat) : Int) = ((moreN 0 (xor3 as' bs cs j) : Nat) : Int) := by
        have z0 : 0 < 4294967296 := by decide
        rw [u32_xor_nat _ _ (moreN_lt (b8_take (unhide A3) j) z0) (moreN_lt (b8_take (unhide B3) j) z0), u32_xor_nat _ _ (xor_lt32 (moreN_lt (b8_take (unhide A3) j) z0) (moreN_lt (b8_take (unhide B3) j) z0)) (moreN_lt (b8_take (unhide G3) j) z0),
          sum_xor3 as' bs cs j (by have := unhide A1; omega) (by have := unhide B1; omega) (by have := unhide G1; omega)]
      generalize moreN 0 (as'.take j) = sa at *
      generalize moreN 0 (bs.take j) = sb at *
      generalize moreN 0 (cs.take j) = sc at *
      generalize moreN 0 (xor3 as' bs cs j) = sd at *
      have jca : (j : Int) ≤ (ca : Int) := by omega
      have jcb : (j : Int) ≤ (cb : Int) := by omega
      have jcc : (j : Int) ≤ (cc : Int) := by omega
      go_wp2_with fail
      go_quiet ((first | (go_at_call 11; exact Calls.quiet_of_same (unhide QA _)) | (go_at_call 11; exact Calls.quiet_of_same (unhide QB _)) | (go_at_call 11; exact Calls.quiet_of_same (unhide QC _)) | (go_at_call 11; exact Calls.quiet_of_same (unhide QD _))))
      go_wp2_with fail
      go_ret
      exact ⟨rfl, (unhide HB4).trans (below_draws _ _ _)⟩

set_option maxRecDepth 100000 in
theorem lifted (os : Os) (started : os.Started) (H : Type) (enc : TypeId × Value → H) :
    ReturnsInHanded {} Try.checked os 7 .any (Rows.crcThreeSpec.pre6 enc Try.prog Try.f7 Rows.crcThreeRow.domain false) (Rows.crcThreeSpec.post enc Try.prog Try.f7 false true false false) := by
  refine law_frame (C := Try.checked) (ts := [22, 22, 22]) (tb := 4) (by kernel_rfl) started (by kernel_rfl) Try.func7 Try.params7 (by kernel_rfl) Try.underlying4 (by kernel_rfl) (by kernel_rfl) rfl ?_
    (ChangeSpec.witness6 (enc := enc) (C := Try.checked) false ⟨#[], #[.slice none 0 0, .slice none 0 0, .slice none 0 0], []⟩ 8 (by kernel_rfl) (by kernel_rfl) (by kernel_rfl) (by kernel_rfl)) ?_
  · intro ds hd
    match ds, hd with
    | [d0, d1, d2], _ => rfl
  · intro W base args ds p hval hA
    obtain ⟨v0, vs0, d0, ds0, p0, q0, hargs, rfl, rfl, h0, r0⟩ := trodAll_cons hA
    obtain ⟨v1, vs1, d1, ds1, p1, q1, rfl, rfl, rfl, h1, r1⟩ := trodAll_cons r0
    obtain ⟨v2, vs2, d2, ds2, p2, q2, rfl, rfl, rfl, h2, r2⟩ := trodAll_cons r1
    obtain ⟨rfl, rfl, rfl⟩ := trodAll_nil r2
    obtain rfl : args = #[v0, v1, v2] := by cases args; simp_all
    obtain ⟨au, bu, nu, cu, rfl, hu⟩ := open_row Try.underlying22 Try.underlying5 (by kernel_rfl) (hval 0 22 v0 rfl rfl) h0
    obtain ⟨av, bv, nv, cv, rfl, hv⟩ := open_row Try.underlying22 Try.underlying5 (by kernel_rfl) (hval 1 22 v1 rfl rfl) h1
    obtain ⟨aw, bw, nw, cw, rfl, hw⟩ := open_row Try.underlying22 Try.underlying5 (by kernel_rfl) (hval 2 22 v2 rfl rfl) h2
    exact walk W au bu nu cu av bv nv cv aw bw nw cw hu hv hw

theorem over : Rows.crcThreeRow.holds Try.pinned (OpenSpec.ofChange Rows.crcThreeSpec) :=
  OpenClaim.holds_of_wide 7 Try.f7 rfl rfl rfl rfl rfl rfl rfl ⟨rfl, rfl, rfl, rfl, rfl⟩ rfl rfl rfl rfl rfl (by kernel_rfl) Try.func7 (by kernel_rfl)
    (of_decide_eq_true (by kernel_rfl)) (by unfold Func.isWrapper; first | (rw [if_pos (by decide +kernel)]; kernel_rfl) | (rw [if_neg (by decide +kernel)]; exact ⟨rfl, rfl⟩))
    (fun os started H enc _ => lifted os started H enc)

end Go.Proofs.Ytkhhgnainlnofaa.crcThree
namespace Go.Proofs.Ytkhhgnainlnofaa
theorem crcThree_holds : Rows.CrcThreeSaid := crcThree.over
end Go.Proofs.Ytkhhgnainlnofaa
