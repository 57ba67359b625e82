
/-
  For every row of objects, row of words and time at which the power goes off, ReviveAgain returns true and leaves its arguments as they were: an image comes back as it is, with all that was journalled behind it, however often the power goes off on the way. No condition.
-/
import Derived.Test.YtiafhcgaikapcaaGreatIAMath
import Derived.Test.YtiafhcgaikapcaaGreatIShown
import Derived.Test.YtiafhcgaikapcaaGreatPkIv
import Derived.Test.YtiafhcgaikapcaaGreatRows
import Derived.Test.YtiafhcgaikapcaaGreatLawSized
import Derived.Test.YtiafhcgaikapcaaGreatEqS
import Derived.Test.YtiafhcgaikapcaaGreatObEq
import Derived.Deep.CutBlock
namespace Go.Proofs.YtiafhcgaikapcaaGreat.reviveAgain
open Go.Proofs.YtiafhcgaikapcaaGreat
open Go.ChangeShapes Go.WideShapes Go.ChangeAt Go.RowKit Go.Joins Go.Deep
set_option maxRecDepth 100000
set_option linter.unusedVariables false
set_option linter.unusedSimpArgs false

theorem block_lt {w : World} {g : Nat} {o : Obj} (h : w.heap[g]? = some o) : g < w.heap.size := by
  rcases Nat.lt_or_ge g w.heap.size with q | q
  · exact q
  · rw [Array.getElem?_eq_none q] at h; cases h
theorem obV_set0 (k v k' : Int) (f : Nat → Int) : (obV k v f).setIfInBounds 0 (.int .i64 k') = obV k' v f := by kernel_rfl
theorem obV_set1 (k v v' : Int) (f : Nat → Int) : (obV k v f).setIfInBounds 1 (.int .i64 v') = obV k v' f := by kernel_rfl
/-- The row of objects is made an image. -/
theorem QSt.format {W w : World} {m : Nat} {St : Mm → World → (Nat → Prop) → Prop} {A : Mm} {G : Nat → Prop} {g n cap : Nat} {l : List Ob} (M : MemI W m St) (h : QSt W (St A) (ObSt W.heap.size (.slice (some ⟨g, 0, none⟩) n cap) l) w G) (hn : l.length = n) (hA : A.ok 300) (c : Int) (hl : l.length ≤ 1000) (hin : ∀ x ∈ l, ObIn x) :
    Calls Tryz.prog 52 #[.pointer (some ⟨m, 0, none⟩), .int .i64 c, .slice (some ⟨g, 0, none⟩) n cap] w (Done (fun w G => QSt W (St (fmtP A c l).1) (ObSt W.heap.size (.slice (some ⟨g, 0, none⟩) n cap) l) w G) w G (.int .i64 (fmtP A c l).2)) := by
  subst hn
  obtain ⟨C, s1, ⟨c1, hrow⟩, s3, s4⟩ := h
  obtain ⟨p, cap', e, _, hat⟩ := RowO.at hrow
  cases e
  refine (format_any M s1 hA c (some ⟨g, 0, none⟩) cap l hl hin (fun w' hk hs => hat w' fun k hk' => hs k (Or.inr ((c1 k).2 hk')))).mono fun e w' hd => hd.q (obSt_loc _ _ _) ⟨c1, hrow⟩ s3 s4
theorem QSt.append {W w : World} {m : Nat} {A : Mm} {G : Nat → Prop} {R R' : World → (Nat → Prop) → Prop} (hR : Loc R) (hR' : Loc R') (h : QSt W (fun w G => QSt W (fun w G => Has W w G m A) R w G) R' w G) (hok : A.ok 900) (core seq : Int) (r : Rc) (hr : r.ok) :
    Calls Tryz.prog 62 #[.pointer (some ⟨m, 0, none⟩), .int .i64 core, .int .i64 seq, .agg (rv r)] w (Done (fun w G => QSt W (fun w G => QSt W (fun w G => Has W w G m (A.appZ core seq r)) R w G) R' w G) w G (.int .i64 (A.appE core seq r))) :=
  QSt.via hR' h fun G h => QSt.via hR h fun G h => (h.appR hok core seq r hr).mono fun e w' hd => hd
theorem QSt.fuse {W w : World} {m : Nat} {A : Mm} {G : Nat → Prop} {R R' : World → (Nat → Prop) → Prop} (hR : Loc R) (hR' : Loc R') (h : QSt W (fun w G => QSt W (fun w G => Has W w G m A) R w G) R' w G) (z : Int) :
    Calls Tryz.prog 18 #[.pointer (some ⟨m, 0, none⟩), .int .i64 z] w (Done (fun w G => QSt W (fun w G => QSt W (fun w G => Has W w G m (A.fused z)) R w G) R' w G) w G (.tuple #[])) :=
  QSt.via hR' h fun G h => QSt.via hR h fun G h => (h.fuse z).mono fun e w' hd => hd
theorem QSt.crash {W w : World} {m : Nat} {A : Mm} {G : Nat → Prop} {R R' : World → (Nat → Prop) → Prop} (hR : Loc R) (hR' : Loc R') (h : QSt W (fun w G => QSt W (fun w G => Has W w G m A) R w G) R' w G) (hok : A.ok 1000) (a : Option Addr) (keep : List Int) (cap : Nat) (hr : ∀ z ∈ keep, In64 z) (hl : keep.length ≤ 9223372036854775807) (hi : IntsAt W a keep) :
    Calls Tryz.prog 44 #[.pointer (some ⟨m, 0, none⟩), .slice a keep.length cap] w (Done (fun w G => QSt W (fun w G => QSt W (fun w G => Has W w G m (A.crash keep)) R w G) R' w G) w G (.tuple #[])) :=
  QSt.via hR' h fun G h => QSt.via hR h fun G h => (h.crash_arg hok a keep cap hr hl hi).mono fun e w' hd => hd

/-- It comes back or not: the memory is what it is. -/
theorem boot_drop {W w : World} {m : Nat} {St : Mm → World → (Nat → Prop) → Prop} {A : Mm} {G : Nat → Prop} (M : MemI W m St) (h : St A w G) (B : Nat) (hA : A.ok B) (hB : B + 8 * A.rs.length ≤ 800) :
    Calls Tryz.prog 56 #[.pointer (some ⟨m, 0, none⟩)] w fun e w' => ∃ v, e = .returned v ∧ St (bootM A) w' G ∧ Same G w w' := by
  refine (imboot_any M h B hA hB).mono fun e w' hq => ?_
  unfold BoPost at hq
  split at hq
  · obtain ⟨b, he, h1, h2⟩ := hq
    exact ⟨_, he, (M.stay _).ls _ _ _ h1.st (fun k hk => Or.inl hk), h2⟩
  · exact ⟨_, hq⟩
/-- It comes back; the store is of no more use. -/
theorem boot_once {W w : World} {m : Nat} {St : Mm → World → (Nat → Prop) → Prop} {A : Mm} {G : Nat → Prop} (M : MemI W m St) (h : St A w G) (B : Nat) (hA : A.ok B) (hB : B + 8 * A.rs.length ≤ 800) (hE : bootE A = 0) :
    Calls Tryz.prog 56 #[.pointer (some ⟨m, 0, none⟩)] w fun e w' => ∃ b f0 f1 f2 f3 a, e = .returned (.tuple #[.agg (imgV (some ⟨b, 0, none⟩) f0 f1 f2 f3 a (bootN A)), .int .i64 0]) ∧ St (bootM A) w' G ∧ Same G w w' := by
  refine (imboot_any M h B hA hB).mono fun e w' hq => ?_
  unfold BoPost at hq
  rw [if_pos hE] at hq
  obtain ⟨b, he, h1, h2⟩ := hq
  exact ⟨b, _, _, _, _, _, he, (M.stay _).ls _ _ _ h1.st (fun k hk => Or.inl hk), h2⟩
theorem boot_last {W w : World} {m : Nat} {St : Mm → World → (Nat → Prop) → Prop} {A : Mm} {G : Nat → Prop} (M : MemI W m St) (h : St A w G) (B : Nat) (hA : A.ok B) (hB : B + 8 * A.rs.length ≤ 800) (hE : bootE A = 0) :
    Calls Tryz.prog 56 #[.pointer (some ⟨m, 0, none⟩)] w fun e w' => ∃ b f0 f1 f2 f3 a, e = .returned (.tuple #[.agg (imgV (some ⟨b, 0, none⟩) f0 f1 f2 f3 a (bootN A)), .int .i64 0]) ∧ SHas W m b St (bootS A) (bootM A) w' G ∧ Same G w w' := by
  refine (imboot_any M h B hA hB).mono fun e w' hq => ?_
  unfold BoPost at hq
  rw [if_pos hE] at hq
  obtain ⟨b, he, h1, h2⟩ := hq
  exact ⟨b, _, _, _, _, _, he, h1, h2⟩
set_option maxHeartbeats 16000000 in
theorem walkA (W : World) (al : Option Addr) (l : List Ob) (cl : Nat) (hll : l.length ≤ 9223372036854775807) (hob : ObsAt W al l) (hin : ∀ x ∈ l, ObIn x) (av : Option Addr) (zs : List Int) (cv : Nat) (hzl : zs.length ≤ 9223372036854775807) (hza : RowAt W .u64 av zs) (hzu : ∀ z ∈ zs, InU z)
    (z : Int) (ak : Option Addr) (keep : List Int) (ck : Nat) (hz : In64 z) (hka : IntsAt W ak keep) (hki : ∀ z ∈ keep, In64 z) (hkl : keep.length ≤ 9223372036854775807) :
    Calls Tryz.prog 7 #[.slice al l.length cl, .slice av zs.length cv, .agg #[.int .i64 z, .slice ak keep.length ck]] W fun e w' => e = .returned (.bool true) ∧ Below W.heap.size W w' := by
  have HOB := hide hob
  have HIN := hide hin
  have HZA := hide hza
  have HZU := hide hzu
  have HZ := hide hz
  have HKA := hide hka
  have HKI := hide hki
  have HLL := hide hll
  have HZL := hide hzl
  have HKL := hide hkl
  obtain ⟨PB, hPB⟩ : ∃ P, P = Obj.cells #[.int .i64 z, .slice ak keep.length ck] 103 (0, 0) := ⟨_, rfl⟩
  have HPB := hide hPB
  have K0 := hide ((Keeps.refl (fun _ => False) W).alloc PB)
  obtain ⟨g1, hg1⟩ : ∃ g, g = W.heap.size := ⟨_, rfl⟩
  have B0 := hide (heap_new W PB)
  rw [← hg1] at B0
  clear hob hin hza hzu hz hka hki
  go_enter Tryz.func7, Tryz.ntmps7
  go_upto_region 1 with fail
  rw [← hPB, ← hg1]
  clear hg1 hPB hll hzl hkl
  generalize W.alloc PB = w0 at *
  go_wp2_with fail
  refine (ishown_any w0).mono ?_
  rintro e w1 ⟨rfl, hk⟩
  have K1 := hide ((unhide K0).trans' hk)
  have B1 := hide ((hk.block g1 (block_lt (unhide B0)) id).trans (unhide B0))
  clear hk K0 B0
  go_wp2_with fail
  refine (new_any w1 128 (by decide) (by decide)).mono ?_
  intro e w2 hm
  obtain ⟨m, rfl, h0, hs0⟩ := made_has W (unhide K1) hm (fun k => k = g1) (fun k hk => by rw [hk]; exact block_lt (unhide B1))
  have M := hide (Has.memI W m)
  obtain ⟨A0, hA0⟩ : ∃ A, A = Mm.new 128 (fun _ _ => 0) := ⟨_, rfl⟩
  rw [← hA0] at h0
  have HA0 := hide hA0
  have HK0 : Hid (A0.ok 0) := by rw [hA0]; exact new0_ok 128 (by decide) (by decide)
  have B2 := hide ((hs0 g1 rfl).trans (unhide B1))
  have Q0 := hide (QSt.row0 ((unhide M).stay A0) h0)
  have B3 := hide (((unhide Q0).2 g1 rfl).trans (unhide B2))
  have Q1 := hide (unhide Q0).1
  clear hm h0 hA0 hs0 K1 B1 B2 Q0
  go_upto_region 6 with fail
  obtain ⟨V0, hV0⟩ : ∃ V, V = Value.slice (some ⟨w2.heap.size, 0, none⟩) 0 0 := ⟨_, rfl⟩
  have V0n : V0 ≠ .slice none 0 0 := by rw [hV0]; intro h; cases h
  rw [← hV0] at Q1 ⊢
  clear hV0
  generalize w2.alloc (.cells #[] 88) = w3 at *
  obtain ⟨L, hL⟩ : ∃ L, L = min l.length 30 := ⟨_, rfl⟩
  have hLl : L ≤ l.length := by omega
  have hL30 : L ≤ 30 := by omega
  go_upto_block 0 with fail
  go_cut [10, 11] from 35 (fun s10 s11 wx => s10 ≠ .slice none 0 0 ∧ QSt W (fun w G => Has W w G m A0) (ObSt W.heap.size s10 (ownO l L)) wx (fun k => k = g1) ∧ wx.heap[g1]? = some PB)
  case first =>
    go_wp2_with fail
    go_loopw [10, 11] (fun vv i wr => ∃ k : Nat, k ≤ L ∧ i = .int .i64 k ∧ vv ≠ .slice none 0 0 ∧ QSt W (fun w G => Has W w G m A0) (ObSt W.heap.size vv (ownO l k)) wr (fun k => k = g1) ∧ wr.heap[g1]? = some PB) (fun _ i _ => 30 - (intOf i).toNat)
    case atStart => exact ⟨0, by omega, rfl, V0n, unhide Q1, unhide B3⟩
    case round =>
      clear Q1 B3 V0n
      obtain ⟨k, hk, rfl, hvn, hq, hb⟩ := hrel
      have Q := hide hq
      have B := hide hb
      have VN := hide hvn
      clear hq hb hvn
      have hl63 := unhide HLL
      obtain ⟨V, hV⟩ : ∃ V, V = u10 := ⟨_, rfl⟩
      subst hV
      by_cases hlt : k < L
      · skip
        have hlt' : (k : Int) < (l.length : Int) := by omega
        have hlt30 : (k : Int) < 30 := by omega
        have hk0 : (0 : Int) ≤ (k : Int) := by omega
        obtain ⟨ga, oa, rfl, hrg⟩ := (unhide HOB).range k (by omega)
        have hn1 := ownO_next l k (by omega)
        have ho1 := ownO_len l k (by omega)
        obtain ⟨x, hx⟩ : ∃ x, x = l.getD k ob0 := ⟨_, rfl⟩
        have hxin : ObIn x := by
          rw [hx, List.getD_eq_getElem?_getD, List.getElem?_eq_getElem (show k < l.length by omega)]
          exact unhide HIN _ (List.getElem_mem _)
        rw [← hx] at hrg hn1
        have HN1 := hide hn1
        have HO1 := hide ho1
        clear hx hn1 ho1
        obtain ⟨xk, xv, xf⟩ := x
        have HXI := hide hxin
        clear hxin
        have T1 := hide (QSt.stay ((unhide M).stay A0) (obSt_loc W.heap.size V (ownO l k)))
        have RG := hide (range_keeps ((unhide T1).sz _ _ (unhide Q)) hrg)
        have s10 := s10_obC ⟨xk, xv, xf⟩
        have s10v : (Tryz.prog.info? 88).map (·.size) = some (obV xk xv xf).size := by rw [obV_size]; kernel_rfl
        have ZL := hide zero_ob
        have X10 := hide (obV_one xk xv xf)
        have SZ : Hid ((obV 0 0 fun _ => 0).size = (obV xk xv xf).size) := by show _ = _; rw [obV_size, obV_size]
        have EC : Hid ((obC ⟨xk, xv, xf⟩).toArray = obV xk xv xf) := by show _ = _; unfold obC; exact Array.toArray_toList
        generalize (obV 0 0 fun _ => 0) = ZV at *
        have O1 := hide ((Held.start (unhide T1) (unhide Q)).alloc (unhide T1) (.cells (obV xk xv xf) 88))
        clear hrg
        go_upto_region 10 with (first | (with_reducible refine wpList_load_mid (by with_unfolding_all rfl) 88 _ (by with_unfolding_all rfl) ga (oa + k * 10) (by with_unfolding_all rfl) (obC ⟨xk, xv, xf⟩) _ (unhide RG) Tryz.underlying88 (by with_unfolding_all rfl) s10 ?_; rw [unhide EC]) | (with_reducible refine wpList_allocZ (by with_unfolding_all rfl) 88 (by with_unfolding_all rfl) ZV (unhide ZL) ?_) | (with_reducible refine wpList_store_row (by with_unfolding_all rfl) 88 _ _ (by with_unfolding_all rfl) wr.heap.size (obV xk xv xf) (by with_unfolding_all rfl) (by with_unfolding_all rfl) 88 ZV (heap_new wr _) s10v (unhide SZ) (unhide X10) ?_; rw [setRow_alloc]))
        obtain ⟨g, hg⟩ : ∃ g, g = wr.heap.size := ⟨_, rfl⟩
        rw [← hg] at O1 ⊢
        clear hg s10 s10v ZL X10 SZ EC RG
        generalize wr.alloc (.cells (obV xk xv xf) 88) = w4 at *
        have c0 : w4.cell? ⟨g, 0, none⟩ = some (.int .i64 xk) := by rw [cell_of_block ((unhide O1).at g (.cells (obV xk xv xf) 88) (by simp))]; rfl
        have f0 : w4.frozen? ⟨g, 0, none⟩ = false := unfrozen_of_block ((unhide O1).at g (.cells (obV xk xv xf) 88) (by simp)) _
        have kb := kindN_lt xk 4 (by decide)
        have CK := hide (ikind_any xk (unhide HXI).1 4 (by decide) (by decide) w4)
        have HN2 : Hid (ownO l (k + 1) = ownO l k ++ [⟨1 + (kindN xk 4 : Nat), (kindN xv 100 : Nat), xf⟩]) := unhide HN1
        clear HN1
        generalize kindN xk 4 = kk at *
        go_wp2_with fail
        refine (unhide CK).mono ?_
        rintro e w4 ⟨rfl, rfl⟩
        clear CK
        go_upto_region 11 with fail
        have O2 := hide ((unhide O1).cellHd (unhide T1) (by simp) 0 (.int .i64 (1 + (kk : Int))))
        rw [obV_set0] at O2
        clear c0 f0 kb O1
        generalize w4.setCell ⟨g, 0, none⟩ (.int .i64 (1 + (kk : Int))) = w5 at *
        have c1 : w5.cell? ⟨g, 1, none⟩ = some (.int .i64 xv) := by rw [cell_of_block ((unhide O2).at g (.cells (obV (1 + (kk : Int)) xv xf) 88) (by simp))]; rfl
        have f1 : w5.frozen? ⟨g, 1, none⟩ = false := unfrozen_of_block ((unhide O2).at g (.cells (obV (1 + (kk : Int)) xv xf) 88) (by simp)) _
        have kb := kindN_lt xv 100 (by decide)
        have CK := hide (ikind_any xv (unhide HXI).2.1 100 (by decide) (by decide) w5)
        generalize kindN xv 100 = jj at *
        go_wp2_with fail
        refine (unhide CK).mono ?_
        rintro e w5 ⟨rfl, rfl⟩
        clear CK
        go_upto_region 12 with fail
        have O3 := hide ((unhide O2).cellHd (unhide T1) (by simp) 1 (.int .i64 (jj : Int)))
        rw [obV_set1] at O3
        clear c1 f1 kb O2
        generalize w5.setCell ⟨g, 1, none⟩ (.int .i64 (jj : Int)) = w6 at *
        have K6 := hide ((unhide O3).at g (.cells (obV (1 + (kk : Int)) jj xf) 88) (by simp))
        have s10 : (Tryz.prog.info? 88).map (·.size) = some (obV (1 + (kk : Int)) jj xf).size := by rw [obV_size]; kernel_rfl
        have O4 := (unhide O3).alloc (unhide T1) (.cells (obV (1 + (kk : Int)) jj xf) 88)
        have Q4 := hide ((unhide T1).ls _ _ (fun k => k = g1) O4.st (fun k hk => Or.inl hk))
        have B4 := hide ((O4.2.2 g1 rfl).trans (unhide B))
        have OA4 : Hid (ObsAt (w6.alloc (.cells (obV (1 + (kk : Int)) jj xf) 88)) (some ⟨w6.heap.size, 0, none⟩) [⟨1 + (kk : Int), jj, xf⟩]) := Or.inr ⟨w6.heap.size, 0, rfl, fun i hi j u hu => by
          obtain rfl : i = 0 := by simpa using hi
          rw [cell_of_block (O4.at w6.heap.size _ List.mem_cons_self), Nat.zero_mul, Nat.add_zero, Nat.zero_add, ← Array.getElem?_toList]
          exact hu⟩
        have hlen4 : (ownO l k).length + 1 < 1000 := by rw [unhide HO1]; omega
        have HN := hide hlen4
        clear O4 O3 Q B hlen4
        go_upto_region 8 with (first | (with_reducible refine wpList_load_row (by with_unfolding_all rfl) 88 _ (by with_unfolding_all rfl) g (by with_unfolding_all rfl) _ _ _ _ (unhide K6) Tryz.underlying88 (by with_unfolding_all rfl) s10 ?_) | (with_reducible refine wpList_obj1 (by with_unfolding_all rfl) (.tmp 59) (by with_unfolding_all rfl) (1 + (kk : Int)) jj xf (by with_unfolding_all rfl) ?_) | (at_builtin; refine push_obs ((unhide M).stay A0) [⟨1 + (kk : Int), jj, xf⟩] w6.heap.size 1 (by with_unfolding_all rfl) (.tmp 58) (.tmp 60) (by with_unfolding_all rfl) (by with_unfolding_all rfl) (unhide Q4) (by with_unfolding_all rfl) (unhide OA4) (unhide HN) ?_; intro V' w7 q1 q2 q3))
        have Q7 := hide q1
        rw [← unhide HN2] at Q7
        have B7 := hide ((q2 g1 rfl).trans (unhide B4))
        have V7 := hide (q3 (unhide VN))
        clear q1 q2 q3 Q4 B4 OA4 HN HN2 K6 s10 VN HO1
        go_wp2_with fail
        go_roundw
        case rel => exact ⟨k + 1, by omega, by go_num, unhide V7, unhide Q7, unhide B7⟩
        case measure => simp [intOf]; omega
      · obtain rfl : k = L := by omega
        by_cases hkl : k < l.length
        · have hkl' : (k : Int) < (l.length : Int) := by omega
          have hk30 : ¬ ((k : Int) < 30) := by omega
          go_wp2_with fail
          go_meet
          case rel => exact ⟨unhide VN, unhide Q, unhide B⟩
        · have hkl' : ¬ ((k : Int) < (l.length : Int)) := by omega
          go_wp2_with fail
          go_meet
          case rel => exact ⟨unhide VN, unhide Q, unhide B⟩
  case rest =>
    clear Q1 B3 V0n
    obtain ⟨hvn, hq, hb⟩ := hcut
    have Q := hide hq
    have B := hide hb
    have VN := hide hvn
    clear hq hb hvn
    obtain ⟨own, hown⟩ : ∃ o, o = ownO l L := ⟨_, rfl⟩
    have hol := ownO_len l L hLl
    have hoin := ownO_in (unhide HIN) L
    have hok := ownO_k (l := l) L
    have AG := again_fmt l L hL30 (unhide HIN) zs
    rw [← hown] at hol hoin hok AG Q
    rw [← unhide HA0] at AG
    have HOL := hide hol
    have HOI := hide hoin
    have HOK := hide hok
    obtain ⟨go, cap, hV, _, _⟩ := (unhide Q).obsAt (unhide VN)
    subst hV
    have CF := QSt.format (unhide M) (unhide Q) rfl (ok_mono (unhide HK0) (by omega)) 2 (by omega) hoin
    rw [AG.1] at CF
    have AG0 := hide AG.2
    obtain ⟨A1, hA1⟩ : ∃ A, A = (fmtP A0 2 own).1 := ⟨_, rfl⟩
    rw [← hA1] at CF AG0
    have CF2 := hide CF
    have hol30 : own.length ≤ 30 := by omega
    clear CF AG hA1 hol hoin hok hown VN HOB HLL HK0 HA0
    go_wp2_with fail
    refine (unhide CF2).mono ?_
    rintro e w8 ⟨rfl, h1, h2⟩
    have B8 := hide ((h2 g1 rfl).trans (unhide B))
    have R1 := hide (obSt_loc W.heap.size (.slice (some ⟨go, 0, none⟩) own.length cap) own)
    have M1 := hide ((unhide M).q (unhide R1))
    have R0 := QSt.row0 ((unhide M1).stay A1) h1
    have OA : Hid (ObsAt (w8.alloc (.cells #[] 88)) (some ⟨go, 0, none⟩) own) := by
      obtain ⟨C, s1, _⟩ := R0.1
      obtain ⟨g', cap', e, _, h⟩ := s1.obsAt (by simp)
      cases e
      exact h
    have Q8 := hide R0.1
    have B9 := hide ((R0.2 g1 rfl).trans (unhide B8))
    have hlen : ([] : List Ob).length + own.length < 1000 := by simp; omega
    clear h1 h2 R0 Q B B8 CF2
    go_upto_region 16 with (at_builtin; refine push_obs ((unhide M1).stay A1) own go cap (by with_unfolding_all rfl) (.tmp 66) (.tmp 67) (by with_unfolding_all rfl) (by with_unfolding_all rfl) (unhide Q8) (by with_unfolding_all rfl) (unhide OA) hlen ?_; intro V9 w9 q1 q2 q3)
    have VN := q3 (by simp)
    have B := hide ((q2 g1 rfl).trans (unhide B9))
    have e0 : ([] : List Ob) ++ own = wantO zs own 0 := (wantO_zero zs own).symm
    rw [e0] at q1
    clear e0
    obtain ⟨gw, capw, hV, hgw, _⟩ := q1.obsAt VN
    rw [wantO_len] at hV
    subst hV
    have Q := hide q1
    clear q1 q2 q3 Q8 B9 OA hlen VN
    obtain ⟨N, hN⟩ : ∃ N, N = min zs.length 4 := ⟨_, rfl⟩
    have hNl : N ≤ zs.length := by omega
    have hN4 : N ≤ 4 := by omega
    go_upto_block 2 with fail
    go_cut [14, 15] from 69 (fun s14 s15 wx => ∃ A : Mm, AgI own zs N A ∧ QSt W (fun w G => QSt W (fun w G => Has W w G m A) (ObSt W.heap.size (.slice (some ⟨go, 0, none⟩) own.length cap) own) w G) (ObSt W.heap.size (.slice (some ⟨gw, 0, none⟩) own.length capw) (wantO zs own N)) wx (fun k => k = g1) ∧ wx.heap[g1]? = some PB)
    case first =>
      go_wp2_with fail
      go_loopw [14] (fun i wr => ∃ (j : Nat) (A : Mm), j ≤ N ∧ i = .int .i64 j ∧ AgI own zs j A ∧ QSt W (fun w G => QSt W (fun w G => Has W w G m A) (ObSt W.heap.size (.slice (some ⟨go, 0, none⟩) own.length cap) own) w G) (ObSt W.heap.size (.slice (some ⟨gw, 0, none⟩) own.length capw) (wantO zs own j)) wr (fun k => k = g1) ∧ wr.heap[g1]? = some PB) (fun i _ => 4 - (intOf i).toNat)
      case atStart => exact ⟨0, A1, by omega, rfl, unhide AG0, unhide Q, unhide B⟩
      case round =>
        clear Q B AG0
        obtain ⟨j, A, hj, rfl, ha, hq, hb⟩ := hrel
        have AG := hide ha
        have Q := hide hq
        have B := hide hb
        clear ha hq hb
        have hz63 := unhide HZL
        by_cases hlt : j < N
        · skip
          have hlt' : (j : Int) < (zs.length : Int) := by omega
          have hlt4 : (j : Int) < 4 := by omega
          have hj0 : (0 : Int) ≤ (j : Int) := by omega
          obtain ⟨ga, oa, rfl, hrg⟩ : ∃ b off, av = some ⟨b, off, none⟩ ∧ ∀ i, i < zs.length → W.cell? ⟨b, off + i, none⟩ = some (.int .u64 (zs.getD i 0)) := by
            rcases unhide HZA with h | h
            · rw [h] at hNl; simp at hNl; omega
            · exact h
          have hrj := hrg j (by omega)
          have HRJ := hide hrj
          have hzin : InU (zs.getD j 0) := unhide HZU _ (by rw [List.getD_eq_getElem?_getD, List.getElem?_eq_getElem (show j < zs.length by omega)]; exact List.getElem_mem _)
          obtain ⟨d, hd⟩ : ∃ d : Nat, zs.getD j 0 % 30 = (d : Int) := ⟨(zs.getD j 0 % 30).toNat, by have := Int.emod_nonneg (zs.getD j 0) (show (30 : Int) ≠ 0 by decide); omega⟩
          have hd30 : (d : Int) < 30 := by have := Int.emod_lt_of_pos (zs.getD j 0) (show (0 : Int) < 30 by decide); omega
          have NX := (unhide AG).next (by omega) hzin
          have T2 := hide (QSt.stay ((unhide M1).stay A) (obSt_loc W.heap.size (.slice (some ⟨gw, 0, none⟩) own.length capw) (wantO zs own j)))
          have r0 : wr.cell? ⟨ga, oa + j, none⟩ = some (.int .u64 (zs.getD j 0)) := ((unhide T2).sz _ _ (unhide Q)).cellOf hrj id
          have CA := QSt.append (unhide R1) (obSt_loc _ _ _) (unhide Q) (ok_mono (unhide AG).ok (by omega)) ((j % 2 : Nat) : Int) 0 (rcA zs j) hzin
          rw [NX.1] at CA
          have WN := hide (wantO_no zs own j d hd)
          have WY := hide (wantO_yes zs own j d (by omega) hd)
          obtain ⟨z0, hz0⟩ : ∃ y, y = zs.getD j 0 := ⟨_, rfl⟩
          have hrc : rcA zs j = ⟨(j : Int) + 1, (d : Int), (j : Int), z0⟩ := by
            unfold rcA; rw [hd, hz0]
          obtain ⟨A2, hA2⟩ : ∃ X, X = A.appZ ((j % 2 : Nat) : Int) 0 (rcA zs j) := ⟨_, rfl⟩
          have AG2 := hide NX.2
          rw [← hA2] at CA AG2
          rw [hrc] at CA
          have CA2 : Hid (Calls Tryz.prog 62 #[.pointer (some ⟨m, 0, none⟩), .int .i64 ((j % 2 : Nat) : Int), .int .i64 0, .agg #[.int .i64 ((j : Int) + 1), .int .i64 (d : Int), .int .i64 (j : Int), .int .u64 z0]] wr _) := CA
          rw [← hz0] at r0 hd hzin WY HRJ
          have HD := hide hd
          have hz1 := hzin.1
          have hz2 := hzin.2
          have hrem : z0.tmod 30 = (d : Int) := by rw [Int.tmod_eq_emod_of_nonneg hz1]; exact hd
          have hjm : (j : Int).tmod 2 = ((j % 2 : Nat) : Int) := by rw [Int.tmod_eq_emod_of_nonneg hj0]; omega
          clear NX hd hrg hrj hzin CA hA2 hz0 hrc AG
          go_upto_region 20 with fail
          go_wp2_with fail
          refine (unhide CA2).mono ?_
          rintro e w10 ⟨rfl, h1, h2⟩
          have Q10 := hide h1
          have B10 := hide ((h2 g1 rfl).trans (unhide B))
          have T3 := hide (QSt.stay ((unhide M1).stay A2) (obSt_loc W.heap.size (.slice (some ⟨gw, 0, none⟩) own.length capw) (wantO zs own j)))
          clear h1 h2 CA2 Q B T2 r0
          by_cases hdl : d < own.length
          · have hdl' : (d : Int) < (own.length : Int) := by omega
            have c0 : w10.cell? ⟨go, d * 10, none⟩ = some (.int .i64 (own.getD d ob0).k) := by
              obtain ⟨C, s1, _⟩ := unhide Q10
              exact (s1.cellO rfl d 0 hdl (by decide)).1
            by_cases hk1 : (own.getD d ob0).k = 1
            · have WY2 := hide (unhide WY ⟨hdl, hk1⟩)
              have r0 : w10.cell? ⟨ga, oa + j, none⟩ = some (.int .u64 z0) := ((unhide T3).sz _ _ (unhide Q10)).cellOf (unhide HRJ) id
              obtain ⟨d1', d2⟩ := (unhide Q10).cellO (wantO_len zs own j) d (2 + j) hdl (by omega)
              rw [wantO_get zs own j d hdl] at d1'
              obtain ⟨old, hold⟩ : ∃ y, (obC ⟨(own.getD d ob0).k, (own.getD d ob0).v, wantC zs own j d⟩)[2 + j]? = some (.int .u64 y) := ⟨wantC zs own j d j, by
                unfold obC obV
                rw [Array.getElem?_toList, Array.getElem?_append_right (by simp), show 2 + j - (#[Value.int .i64 (own.getD d ob0).k, .int .i64 (own.getD d ob0).v] : Array Value).size = j by simp, lnV_get _ _ (by omega)]⟩
              have d1 : w10.cell? ⟨gw, d * 10 + 2 + j, none⟩ = some (.int .u64 old) := by rw [Nat.add_assoc, d1', hold]
              have d2' : w10.frozen? ⟨gw, d * 10 + 2 + j, none⟩ = false := by rw [Nat.add_assoc]; exact d2
              rw [hk1] at c0
              clear d1' d2 hold hk1 WY WN
              go_upto_region 23 with fail
              clear c0
              have hdj8 : (j : Int) < 8 := by omega
              have QS := (unhide Q10).stored ((unhide M1).stay A2) (wantO_len zs own j) (wantO_len zs own (j + 1)) (d * 10 + 2 + j) (.int .u64 z0) (unhide WY2)
              have T4 := QSt.stay ((unhide M1).stay A2) (obSt_loc W.heap.size (.slice (some ⟨gw, 0, none⟩) own.length capw) (wantO zs own (j + 1)))
              have Q11 := hide (T4.bl _ _ _ QS.1 (Keeps.refl _ _).drew)
              have B11 : Hid ((w10.setCell ⟨gw, d * 10 + 2 + j, none⟩ (.int .u64 z0)).drew.heap[g1]? = some PB) := (QS.2 g1 rfl).trans (unhide B10)
              clear QS T4 T3 Q10 B10 WY2
              go_region
              clear d1 d2' r0
              generalize (w10.setCell ⟨gw, d * 10 + 2 + j, none⟩ (.int .u64 z0)).drew = w11 at *
              go_wp2_with fail
              go_roundw
              case rel => exact ⟨j + 1, A2, by omega, by go_num, unhide AG2, unhide Q11, unhide B11⟩
              case measure => simp [intOf]; omega
            · have hkb : ((own.getD d ob0).k == 1) = false := by simpa using hk1
              have WN2 := hide (unhide WN fun q => hk1 q.2)
              generalize (own.getD d ob0).k = ok0 at *
              clear hk1 WN WY
              go_wp2_with fail
              go_roundw
              case rel => exact ⟨j + 1, A2, by omega, by go_num, unhide AG2, by rw [unhide WN2]; exact unhide Q10, unhide B10⟩
              case measure => simp [intOf]; omega
          · have hdl' : ¬ ((d : Int) < (own.length : Int)) := by omega
            have WN2 := hide (unhide WN fun q => hdl q.1)
            clear WN WY
            go_wp2_with fail
            go_roundw
            case rel => exact ⟨j + 1, A2, by omega, by go_num, unhide AG2, by rw [unhide WN2]; exact unhide Q10, unhide B10⟩
            case measure => simp [intOf]; omega
        · obtain rfl : j = N := by omega
          by_cases hkl : j < zs.length
          · have hkl' : (j : Int) < (zs.length : Int) := by omega
            have hk30 : ¬ ((j : Int) < 4) := by omega
            go_wp2_with fail
            go_meet
            case rel => exact ⟨A, unhide AG, unhide Q, unhide B⟩
          · have hkl' : ¬ ((j : Int) < (zs.length : Int)) := by omega
            go_wp2_with fail
            go_meet
            case rel => exact ⟨A, unhide AG, unhide Q, unhide B⟩
    case rest =>
      clear Q B AG0
      obtain ⟨A2, ha, hq, hb⟩ := hcut
      have AG := hide ha
      have Q := hide hq
      have B := hide hb
      clear ha hq hb
      have R2 := hide (obSt_loc W.heap.size (.slice (some ⟨gw, 0, none⟩) own.length capw) (wantO zs own N))
      have M2 := hide ((unhide M1).q (unhide R2))
      have HC : Hid (∀ w : World, w.heap[g1]? = some PB → w.cell? ⟨g1, 0, none⟩ = some (.int .i64 z) ∧ w.cell? ⟨g1, 1, none⟩ = some (.slice ak keep.length ck)) := fun w h => by
        rw [unhide HPB] at h
        exact ⟨by rw [cell_of_block h]; rfl, by rw [cell_of_block h]; rfl⟩
      have c0 := (unhide HC _ (unhide B)).1
      have kb := kindN_lt z 60 (by decide)
      have CK := hide (ikind_any z (unhide HZ) 60 (by decide) (by decide) wc)
      obtain ⟨AB, hon⟩ := (unhide AG).fused hN4 ((kindN z 60 : Nat) : Int) ⟨by omega, by omega⟩
      have CF := hide (QSt.fuse (unhide R1) (unhide R2) (unhide Q) ((kindN z 60 : Nat) : Int))
      obtain ⟨A3, hA3⟩ : ∃ X, X = A2.fused ((kindN z 60 : Nat) : Int) := ⟨_, rfl⟩
      rw [← hA3] at AB hon CF
      clear hA3
      generalize kindN z 60 = kk at *
      have hrl := (AB.rs hN4 hon).2
      have AB0 := hide AB
      have AB1 := hide (AB.booted hN4 hon)
      have CB := hide (fun (w : World) G (h : QSt W (fun w G => QSt W (fun w G => Has W w G m A3) (ObSt W.heap.size (.slice (some ⟨go, 0, none⟩) own.length cap) own) w G) (ObSt W.heap.size (.slice (some ⟨gw, 0, none⟩) own.length capw) (wantO zs own N)) w G) => boot_drop (unhide M2) h 420 AB.ok (by omega))
      clear AB hon hrl AG
      go_wp2_with fail
      refine (unhide CK).mono ?_
      rintro e wc ⟨rfl, rfl⟩
      clear c0 CK
      go_wp2_with fail
      refine (unhide CF).mono ?_
      rintro e w12 ⟨rfl, h1, h2⟩
      have Q12 := hide h1
      have B12 := hide ((h2 g1 rfl).trans (unhide B))
      clear h1 h2 CF Q B kb
      go_wp2_with fail
      refine (unhide CB _ _ (unhide Q12)).mono ?_
      rintro e w13 ⟨v13, rfl, h1, h2⟩
      have Q13 := hide h1
      have B13 := hide ((h2 g1 rfl).trans (unhide B12))
      clear h1 h2 CB Q12 B12 AB0
      obtain ⟨A4, hA4⟩ : ∃ X, X = bootM A3 := ⟨_, rfl⟩
      rw [← hA4] at Q13 AB1
      clear hA4
      have c1 := (unhide HC _ (unhide B13)).2
      have CC := hide (QSt.crash (unhide R1) (unhide R2) (unhide Q13) (ok_mono (unhide AB1).ok (by omega)) ak keep ck (unhide HKI) (unhide HKL) (unhide HKA))
      have hc := (unhide AB1).crash keep
      obtain ⟨A5, hA5⟩ : ∃ X, X = A4.crash keep := ⟨_, rfl⟩
      rw [← hA5] at hc CC
      have AB2 := hide hc.1
      have HC5 := hide hc.2
      clear hA5 hc
      go_wp2_with fail
      refine (unhide CC).mono ?_
      rintro e w14 ⟨rfl, h1, h2⟩
      have Q14 := hide h1
      have B14 := hide ((h2 g1 rfl).trans (unhide B13))
      clear h1 h2 CC c1 Q13 B13 AB1
      obtain ⟨e1, e2, e3, _⟩ := (unhide AB2).boot hN4 hol30 (unhide HC5)
      have CB := hide (boot_once (unhide M2) (unhide Q14) _ (unhide AB2).ok (by omega) e1)
      rw [e2] at CB
      have AB3 := hide ((unhide AB2).booted hN4 (unhide HC5).1)
      obtain ⟨A6, hA6⟩ : ∃ X, X = bootM A5 := ⟨_, rfl⟩
      rw [← hA6] at CB AB3
      clear hA6 e1 e2 e3
      have T6 := hide ((unhide M2).stay A6)
      have ZI := hide zero_img
      go_wp2_with fail
      refine (unhide CB).mono ?_
      rintro e w15 ⟨b1, f0, f1, f2, f3, fa, rfl, h1, h2⟩
      have B15 := (h2 g1 rfl).trans (unhide B14)
      obtain ⟨IV1, hIV1⟩ : ∃ V, V = imgV (some ⟨b1, 0, none⟩) f0 f1 f2 f3 fa ((N : Int) + 1) := ⟨_, rfl⟩
      have O1 := hide ((Held.start (unhide T6) h1).alloc (unhide T6) (.cells IV1 111))
      have SI1 : Hid ((Tryz.prog.info? 111).map (·.size) = some IV1.size) := by rw [hIV1]; exact s7_img _ _ _ _ _ _ _
      have SZ1 : Hid (imgZ.size = IV1.size) := by rw [hIV1]; exact (rfl : imgZ.size = _)
      have XI1 : Hid (IV1.all (·.oneCell') = true) := by rw [hIV1]; exact imgV_one _ _ _ _ _ _ _
      have VC1 : Hid (IV1[0]? = some (.pointer (some ⟨b1, 0, none⟩)) ∧ IV1[6]? = some (.int .i64 ((N : Int) + 1))) := by rw [hIV1]; exact ⟨rfl, rfl⟩
      rw [← hIV1]
      have B16 := hide (((unhide O1).2.2 g1 rfl).trans B15)
      clear h1 h2 CB hIV1 B15 Q14 B14
      go_upto_region 28 with (first | (with_reducible refine wpList_allocZ (by with_unfolding_all rfl) 111 (by with_unfolding_all rfl) imgZ (unhide ZI) ?_) | (with_reducible refine wpList_store_row (by with_unfolding_all rfl) 111 _ _ (by with_unfolding_all rfl) w15.heap.size IV1 (by with_unfolding_all rfl) (by with_unfolding_all rfl) 111 imgZ (heap_new w15 _) (unhide SI1) (unhide SZ1) (unhide XI1) ?_; rw [setRow_alloc]))
      obtain ⟨gA, hgA⟩ : ∃ g, g = w15.heap.size := ⟨_, rfl⟩
      rw [← hgA] at O1 ⊢
      clear hgA SI1 SZ1 XI1
      generalize w15.alloc (.cells IV1 111) = w16 at *
      have c1 := (unhide HC _ (unhide B16)).2
      have CC := hide (QSt.crash (unhide R1) (unhide R2) (unhide O1).st (ok_mono (unhide AB3).ok (by omega)) ak keep ck (unhide HKI) (unhide HKL) (unhide HKA))
      have hc := (unhide AB3).crash keep
      obtain ⟨A7, hA7⟩ : ∃ X, X = A6.crash keep := ⟨_, rfl⟩
      rw [← hA7] at hc CC
      have AB4 := hide hc.1
      have HC7 := hide hc.2
      clear hA7 hc
      go_wp2_with fail
      refine (unhide CC).mono ?_
      rintro e w17 ⟨rfl, h1, h2⟩
      have O2 := hide ((unhide O1).call (St' := fun w G => QSt W (fun w G => QSt W (fun w G => Has W w G m A7) (ObSt W.heap.size (.slice (some ⟨go, 0, none⟩) own.length cap) own) w G) (ObSt W.heap.size (.slice (some ⟨gw, 0, none⟩) own.length capw) (wantO zs own N)) w G) h1 h2)
      clear h1 h2 CC c1 B16 O1 AB3 T6
      obtain ⟨e1, e2, e3, e4⟩ := (unhide AB4).boot hN4 hol30 (unhide HC7)
      have CB := hide (boot_last (unhide M2) (unhide O2).st _ (unhide AB4).ok (by omega) e1)
      rw [e2] at CB
      obtain ⟨A8, hA8⟩ : ∃ X, X = bootM A7 := ⟨_, rfl⟩
      obtain ⟨S8, hS8⟩ : ∃ X, X = bootS A7 := ⟨_, rfl⟩
      rw [← hA8, ← hS8] at CB e4
      have IC8 := hide e4
      clear hA8 hS8 e1 e2 e3 e4
      go_wp2_with fail
      refine (unhide CB).mono ?_
      rintro e w18 ⟨b2, f0, f1, f2, f3, fa, rfl, h1, h2⟩
      have O3 := (unhide O2).call (St' := SHas W m b2 (fun A w G => QSt W (fun w G => QSt W (fun w G => Has W w G m A) (ObSt W.heap.size (.slice (some ⟨go, 0, none⟩) own.length cap) own) w G) (ObSt W.heap.size (.slice (some ⟨gw, 0, none⟩) own.length capw) (wantO zs own N)) w G) S8 A8) h1 h2
      have T8 := hide (SHas.stay (unhide M2).toMemL b2 S8 A8)
      obtain ⟨IV2, hIV2⟩ : ∃ V, V = imgV (some ⟨b2, 0, none⟩) f0 f1 f2 f3 fa ((N : Int) + 1) := ⟨_, rfl⟩
      have O4 := hide (O3.alloc (unhide T8) (.cells IV2 111))
      have SI1 : Hid ((Tryz.prog.info? 111).map (·.size) = some IV2.size) := by rw [hIV2]; exact s7_img _ _ _ _ _ _ _
      have SZ1 : Hid (imgZ.size = IV2.size) := by rw [hIV2]; exact (rfl : imgZ.size = _)
      have XI1 : Hid (IV2.all (·.oneCell') = true) := by rw [hIV2]; exact imgV_one _ _ _ _ _ _ _
      have VC2 : Hid (IV2[0]? = some (.pointer (some ⟨b2, 0, none⟩)) ∧ IV2[6]? = some (.int .i64 ((N : Int) + 1))) := by rw [hIV2]; exact ⟨rfl, rfl⟩
      rw [← hIV2]
      clear h1 h2 CB hIV2 O2 O3
      go_upto_region 30 with (first | (with_reducible refine wpList_allocZ (by with_unfolding_all rfl) 111 (by with_unfolding_all rfl) imgZ (unhide ZI) ?_) | (with_reducible refine wpList_store_row (by with_unfolding_all rfl) 111 _ _ (by with_unfolding_all rfl) w18.heap.size IV2 (by with_unfolding_all rfl) (by with_unfolding_all rfl) 111 imgZ (heap_new w18 _) (unhide SI1) (unhide SZ1) (unhide XI1) ?_; rw [setRow_alloc]))
      obtain ⟨gB, hgB⟩ : ∃ g, g = w18.heap.size := ⟨_, rfl⟩
      rw [← hgB] at O4 ⊢
      clear hgB SI1 SZ1 XI1 ZI
      generalize w18.alloc (.cells IV2 111) = w19 at *
      have i0 : w19.cell? ⟨gA, 0, none⟩ = some (.pointer (some ⟨b1, 0, none⟩)) := by rw [cell_of_block ((unhide O4).at gA (.cells IV1 111) (by simp))]; exact (unhide VC1).1
      have i6 : w19.cell? ⟨gA, 6, none⟩ = some (.int .i64 ((N : Int) + 1)) := by rw [cell_of_block ((unhide O4).at gA (.cells IV1 111) (by simp))]; exact (unhide VC1).2
      have j0 : w19.cell? ⟨gB, 0, none⟩ = some (.pointer (some ⟨b2, 0, none⟩)) := by rw [cell_of_block ((unhide O4).at gB (.cells IV2 111) (by simp))]; exact (unhide VC2).1
      have j6 : w19.cell? ⟨gB, 6, none⟩ = some (.int .i64 ((N : Int) + 1)) := by rw [cell_of_block ((unhide O4).at gB (.cells IV2 111) (by simp))]; exact (unhide VC2).2
      have hmin : (min (zs.length : Int) 4) = (N : Int) := by omega
      have hz63 := unhide HZL
      go_upto_region 32 with fail
      clear i0 i6 j0 j6 hmin hz63
      have hn8 : A8.n ≤ 1024 := by rw [(unhide IC8).an]; decide
      have TOLD := hide (fun i hi => (unhide IC8).told (unhide HOK) i hi)
      have CG := hide (fun (i : Nat) (w' : World) (G' : Nat → Prop) (h' : SHas W m b2 (fun A w G => QSt W (fun w G => QSt W (fun w G => Has W w G m A) (ObSt W.heap.size (.slice (some ⟨go, 0, none⟩) own.length cap) own) w G) (ObSt W.heap.size (.slice (some ⟨gw, 0, none⟩) own.length capw) (wantO zs own N)) w G) S8 A8 w' G') => get_any (unhide M2).toMemL h' hn8 (i : Int))
      clear hn8 IC8 AB4 HC7 VC1 HC AB2 HC5
      go_wp2_with fail
      go_loopw [20] (fun c wr => ∃ i : Nat, i ≤ 49 ∧ c = .int .i64 i ∧ Held W (SHas W m b2 (fun A w G => QSt W (fun w G => QSt W (fun w G => Has W w G m A) (ObSt W.heap.size (.slice (some ⟨go, 0, none⟩) own.length cap) own) w G) (ObSt W.heap.size (.slice (some ⟨gw, 0, none⟩) own.length capw) (wantO zs own N)) w G) S8 A8) w15 wr (fun k => k = g1) [(gB, .cells IV2 111)]) (fun c _ => 49 - (intOf c).toNat)
      case atStart => exact ⟨0, by omega, rfl, (unhide O4).less (unhide T8) (by simp)⟩
      case round =>
        clear O4
        obtain ⟨i, hi, rfl, hh⟩ := hrel
        have HH := hide hh
        clear hh
        by_cases hlt : i < 49
        · have hlt' : (i : Int) < 49 := by omega
          have hi0 : (0 : Int) ≤ (i : Int) := by omega
          have CGI := hide (unhide CG i _ _ (unhide HH).st)
          have ZO := hide zero_ob
          have j0 : wr.cell? ⟨gB, 0, none⟩ = some (.pointer (some ⟨b2, 0, none⟩)) := by rw [cell_of_block ((unhide HH).at gB (.cells IV2 111) (by simp))]; exact (unhide VC2).1
          by_cases hio : i < own.length
          · have hio' : (i : Int) < (own.length : Int) := by omega
            have hio2 : ¬ ((own.length : Int) ≤ (i : Int)) := by omega
            rw [(unhide TOLD i hlt).1 hio] at CGI
            obtain ⟨⟨xk, xv, xf⟩, hx⟩ : ∃ x, x = (wantO zs own N).getD i ob0 := ⟨_, rfl⟩
            rw [← hx] at CGI
            have HX := hide hx
            have CG2 : Hid (Calls Tryz.prog 42 #[.pointer (some ⟨b2, 0, none⟩), .int .i64 (i : Int)] wr (Done _ wr _ (.tuple #[.agg (obV xk xv xf), .int .i64 0]))) := unhide CGI
            clear hx CGI
            have EQO := hide (fun (w : World) => equal_ob xk xv xf w)
            have S1 := hide (s10_ob xk xv xf)
            have X1 := hide (obV_one xk xv xf)
            have Q1 : Hid ((obV 0 0 fun _ => 0).size = (obV xk xv xf).size) := by show _ = _; rw [obV_size, obV_size]
            generalize (obV 0 0 fun _ => 0) = ZOV at *
            obtain ⟨OV, hOV⟩ : ∃ V, V = obV xk xv xf := ⟨_, rfl⟩
            rw [← hOV] at CG2 S1 X1 Q1 EQO
            have HOV := hide hOV
            clear hOV
            go_wp2_with fail
            refine (unhide CG2).mono ?_
            rintro e w20 ⟨rfl, h1, h2⟩
            have O5 := (unhide HH).call (St' := SHas W m b2 (fun A w G => QSt W (fun w G => QSt W (fun w G => Has W w G m A) (ObSt W.heap.size (.slice (some ⟨go, 0, none⟩) own.length cap) own) w G) (ObSt W.heap.size (.slice (some ⟨gw, 0, none⟩) own.length capw) (wantO zs own N)) w G) S8 A8) h1 h2
            have O6 := hide (O5.alloc (unhide T8) (.cells OV 88))
            clear h1 h2 CG2 HH j0 O5
            go_upto_region 36 with (first | (with_reducible refine wpList_allocZ (by with_unfolding_all rfl) 88 (by with_unfolding_all rfl) ZOV (unhide ZO) ?_) | (with_reducible refine wpList_store_row (by with_unfolding_all rfl) 88 _ _ (by with_unfolding_all rfl) w20.heap.size OV (by with_unfolding_all rfl) (by with_unfolding_all rfl) 88 ZOV (heap_new w20 _) (unhide S1) (unhide Q1) (unhide X1) ?_; rw [setRow_alloc]))
            obtain ⟨gx, hgx⟩ : ∃ g, g = w20.heap.size := ⟨_, rfl⟩
            rw [← hgx] at O6 ⊢
            clear hgx S1 Q1 X1 ZO
            generalize w20.alloc (.cells OV 88) = w21 at *
            have XR : Hid (w21.rangeAt gx 0 OV.toList) := fun j v hj => by
              rw [Nat.zero_add, cell_of_block ((unhide O6).at gx (.cells OV 88) (by simp)), ← Array.getElem?_toList]; exact hj
            have RW : Hid (w21.rangeAt gw (i * 10) OV.toList) := by
              have := (unhide O6).st.st.rangeO (wantO_len zs own N) i hio
              rw [← unhide HX] at this
              rw [unhide HOV]; exact this
            have s10 : (Tryz.prog.info? 88).map (·.size) = some OV.toList.length := by rw [unhide HOV, Array.length_toList, obV_size]; kernel_rfl
            clear HX HOV
            go_wp2_with fail
            refine wp_region_noPanic ?_
            refine wp_region_held_drew (S := fun w' => w'.rangeAt gx 0 OV.toList ∧ w'.rangeAt gw (i * 10) OV.toList) (by kernel_rfl) ⟨unhide XR, unhide RW⟩ (fun hHeld => ?_)
            refine take_at 0 195 (v := ?_) rfl rfl (by kernel_rfl) (by kernel_rfl) (by kernel_rfl) (Or.inl ⟨by rfl, ?_⟩) hHeld ?_
            rotate_left
            · intro w hSw; go_simp; with_reducible rfl
            simp only [Act.put, List.setIfInBounds_toArray, List.set_cons_zero, List.set_cons_succ]
            refine take_at 1 196 (v := ?_) rfl rfl (by kernel_rfl) (by kernel_rfl) (by kernel_rfl) (Or.inl ⟨by rfl, ?_⟩) hHeld ?_
            rotate_left
            · intro w hSw; go_simp; with_reducible rfl
            simp only [Act.put, List.setIfInBounds_toArray, List.set_cons_zero, List.set_cons_succ]
            refine take_at 2 197 (v := ?_) rfl rfl (by kernel_rfl) (by kernel_rfl) (by kernel_rfl) (Or.inl ⟨by rfl, ?_⟩) hHeld ?_
            rotate_left
            · intro w hSw; go_simp; with_reducible rfl
            simp only [Act.put, List.setIfInBounds_toArray, List.set_cons_zero, List.set_cons_succ]
            refine take_at 3 198 rfl rfl (by kernel_rfl) (by kernel_rfl) (by kernel_rfl) (yieldsIf_load_mid (by rfl) _ _ rfl gx 0 rfl _ _ (fun w h => h.1) Tryz.underlying88 rfl s10) hHeld ?_
            simp only [Act.put, List.setIfInBounds_toArray, List.set_cons_zero, List.set_cons_succ]
            refine take_at 4 199 (v := ?_) rfl rfl (by kernel_rfl) (by kernel_rfl) (by kernel_rfl) (Or.inl ⟨by rfl, ?_⟩) hHeld ?_
            rotate_left
            · intro w hSw; go_simp; with_reducible rfl
            simp only [Act.put, List.setIfInBounds_toArray, List.set_cons_zero, List.set_cons_succ]
            refine take_at 5 200 (v := ?_) rfl rfl (by kernel_rfl) (by kernel_rfl) (by kernel_rfl) (Or.inl ⟨by rfl, ?_⟩) hHeld ?_
            rotate_left
            · intro w hSw; go_simp; with_reducible rfl
            simp only [Act.put, List.setIfInBounds_toArray, List.set_cons_zero, List.set_cons_succ]
            refine take_at 6 201 (v := ?_) rfl rfl (by kernel_rfl) (by kernel_rfl) (by kernel_rfl) (Or.inl ⟨by rfl, ?_⟩) hHeld ?_
            rotate_left
            · intro w hSw; go_simp; with_reducible rfl
            simp only [Act.put, List.setIfInBounds_toArray, List.set_cons_zero, List.set_cons_succ]
            refine take_at 7 202 rfl rfl (by kernel_rfl) (by kernel_rfl) (by kernel_rfl) (yieldsIf_load_mid (by rfl) _ _ rfl gw (i * 10) rfl _ _ (fun w h => h.2) Tryz.underlying88 rfl s10) hHeld ?_
            simp only [Act.put, List.setIfInBounds_toArray, List.set_cons_zero, List.set_cons_succ]
            refine take_at 8 203 rfl rfl (by kernel_rfl) (by kernel_rfl) (by kernel_rfl) (yieldsIf_neqA (by rfl) 88 88 (.tmp 198) (.tmp 202) rfl OV OV rfl rfl ob_guard true (unhide EQO)) hHeld ?_
            simp only [Act.put, List.setIfInBounds_toArray, List.set_cons_zero, List.set_cons_succ]
            refine take_at 9 204 (v := ?_) rfl rfl (by kernel_rfl) (by kernel_rfl) (by kernel_rfl) (Or.inl ⟨by rfl, ?_⟩) hHeld ?_
            rotate_left
            · intro w hSw; go_simp; with_reducible rfl
            simp only [Act.put, List.setIfInBounds_toArray, List.set_cons_zero, List.set_cons_succ]
            refine wpAnyH_done (by kernel_rfl) ?_ _
            refine NoPanic.normal ?_
            clear hHeld XR RW s10
            go_wp2_with fail
            go_roundw
            case rel => exact ⟨i + 1, by omega, by go_num, ((unhide O6).less (unhide T8) (by simp)).drew (unhide T8)⟩
            case measure => simp [intOf]; omega
          · have hio2 : (own.length : Int) ≤ (i : Int) := by omega
            rw [(unhide TOLD i hlt).2 (by omega)] at CGI
            obtain ⟨xk, xv, xf, hx⟩ : ∃ (k v : Int) (f : Nat → Int), obV 0 0 (fun _ => 0) = obV k v f := ⟨_, _, _, rfl⟩
            rw [hx] at CGI
            have CG2 : Hid (Calls Tryz.prog 42 #[.pointer (some ⟨b2, 0, none⟩), .int .i64 (i : Int)] wr (Done _ wr _ (.tuple #[.agg (obV xk xv xf), .int .i64 30]))) := unhide CGI
            clear hx CGI
            have EQO := hide (fun (w : World) => equal_ob xk xv xf w)
            have S1 := hide (s10_ob xk xv xf)
            have X1 := hide (obV_one xk xv xf)
            have Q1 : Hid ((obV 0 0 fun _ => 0).size = (obV xk xv xf).size) := by show _ = _; rw [obV_size, obV_size]
            generalize (obV 0 0 fun _ => 0) = ZOV at *
            obtain ⟨OV, hOV⟩ : ∃ V, V = obV xk xv xf := ⟨_, rfl⟩
            rw [← hOV] at CG2 S1 X1 Q1 EQO
            have HOV := hide hOV
            clear hOV
            go_wp2_with fail
            refine (unhide CG2).mono ?_
            rintro e w20 ⟨rfl, h1, h2⟩
            have O5 := (unhide HH).call (St' := SHas W m b2 (fun A w G => QSt W (fun w G => QSt W (fun w G => Has W w G m A) (ObSt W.heap.size (.slice (some ⟨go, 0, none⟩) own.length cap) own) w G) (ObSt W.heap.size (.slice (some ⟨gw, 0, none⟩) own.length capw) (wantO zs own N)) w G) S8 A8) h1 h2
            have O6 := hide (O5.alloc (unhide T8) (.cells OV 88))
            clear h1 h2 CG2 HH j0 O5
            go_upto_region 36 with (first | (with_reducible refine wpList_allocZ (by with_unfolding_all rfl) 88 (by with_unfolding_all rfl) ZOV (unhide ZO) ?_) | (with_reducible refine wpList_store_row (by with_unfolding_all rfl) 88 _ _ (by with_unfolding_all rfl) w20.heap.size OV (by with_unfolding_all rfl) (by with_unfolding_all rfl) 88 ZOV (heap_new w20 _) (unhide S1) (unhide Q1) (unhide X1) ?_; rw [setRow_alloc]))
            obtain ⟨gx, hgx⟩ : ∃ g, g = w20.heap.size := ⟨_, rfl⟩
            rw [← hgx] at O6 ⊢
            clear hgx S1 Q1 X1 ZO
            generalize w20.alloc (.cells OV 88) = w21 at *
            clear HOV EQO
            go_wp2_with fail
            go_roundw
            case rel => exact ⟨i + 1, by omega, by go_num, (unhide O6).less (unhide T8) (by simp)⟩
            case measure => simp [intOf]; omega
        · obtain rfl : i = 49 := by omega
          have KF := hide ((unhide T8).sz _ _ (unhide HH).1)
          go_wp2_with fail
          go_ret
          exact ⟨rfl, (unhide KF).asBelow⟩

theorem walk (W : World) (al : Option Addr) (cl : Nat) (l : List Ob) (av : Option Addr) (zs : List Int) (nv cv : Nat) (z : Int) (ak : Option Addr) (keep : List Int) (ck : Nat)
    (hL : l.length ≤ cl ∧ l.length ≤ 9223372036854775807 ∧ ObsAt W al l ∧ ∀ x ∈ l, ObIn x) (hV : IsRow W .u64 av zs nv cv) (hP : In64 z ∧ IntsAt W ak keep ∧ (∀ z ∈ keep, In64 z) ∧ keep.length ≤ 9223372036854775807) :
    Calls Tryz.prog 7 #[.slice al l.length cl, .slice av nv cv, .agg #[.int .i64 z, .slice ak keep.length ck]] W fun e w' => e = .returned (.bool true) ∧ Below W.heap.size W w' := by
  obtain ⟨rfl, h2, h3, h4, h5⟩ := hV
  exact walkA W al l cl hL.2.1 hL.2.2.1 hL.2.2.2 av zs cv (by omega) h2 (fun z hz => inU_wf (h3 z hz)) z ak keep ck hP.1 hP.2.1 hP.2.2.1 hP.2.2.2

set_option maxRecDepth 100000 in
theorem lifted (os : Os) (started : os.Started) (H : Type) (enc : TypeId × Value → H) :
    ReturnsInHanded {} Tryz.checked os 7 .any (Rows.reviveAgainSpec.pre6 enc Tryz.prog Tryz.f7 Rows.reviveAgainRow.domain false) (Rows.reviveAgainSpec.post enc Tryz.prog Tryz.f7 false true false false) := by
  refine law_frame (C := Tryz.checked) (ts := [101, 123, 103]) (tb := 4) (by kernel_rfl) started (by kernel_rfl) Tryz.func7 Tryz.params7 (by kernel_rfl) Tryz.underlying4 (by kernel_rfl) (by kernel_rfl) rfl ?_
    (ChangeSpec.witness6 (enc := enc) (C := Tryz.checked) false ⟨#[], #[.slice none 0 0, .slice none 0 0, .agg #[.int .i64 0, .slice none 0 0]], []⟩ 8 (by kernel_rfl) (by kernel_rfl) (by kernel_rfl) (by kernel_rfl)) ?_
  · intro ds hd
    match ds, hd with
    | [d0, d1, d2], _ => rfl
  · intro W base args ds p hval hA
    obtain ⟨v0, vs0, d0, ds0, p0, q0, hargs, rfl, rfl, h0, r0⟩ := trodAll_cons hA
    obtain ⟨v1, vs1, d1, ds1, p1, q1, rfl, rfl, rfl, h1, r1⟩ := trodAll_cons r0
    obtain ⟨v2, vs2, d2, ds2, p2, q2, rfl, rfl, rfl, h2, r2⟩ := trodAll_cons r1
    obtain ⟨rfl, rfl, rfl⟩ := trodAll_nil r2
    obtain rfl : args = #[v0, v1, v2] := by cases args; simp_all
    obtain ⟨al, cl, l, rfl, hL⟩ := open_obs (hval 0 101 v0 rfl rfl) h0
    obtain ⟨av, zs, nv, cv, rfl, hV⟩ := open_u64sO (hval 1 123 v1 rfl rfl) h1
    obtain ⟨z, ak, keep, ck, rfl, hP⟩ := open_powerI (hval 2 103 v2 rfl rfl) h2
    exact walk W al cl l av zs nv cv z ak keep ck hL hV hP

theorem over : Rows.reviveAgainRow.holds Tryz.pinned (OpenSpec.ofChange Rows.reviveAgainSpec) :=
  OpenClaim.holds_of_wide 7 Tryz.f7 rfl rfl rfl rfl rfl rfl rfl ⟨rfl, rfl, rfl, rfl, rfl⟩ rfl rfl rfl rfl rfl (by kernel_rfl) Tryz.func7 (by kernel_rfl)
    (of_decide_eq_true (by kernel_rfl)) (by unfold Func.isWrapper; first | (rw [if_pos (by decide +kernel)]; kernel_rfl) | (rw [if_neg (by decide +kernel)]; exact ⟨rfl, rfl⟩))
    (fun os started H enc _ => lifted os started H enc)

end Go.Proofs.YtiafhcgaikapcaaGreat.reviveAgain
namespace Go.Proofs.YtiafhcgaikapcaaGreat
theorem reviveAgain_holds : Rows.ReviveAgainSaid := reviveAgain.over
end Go.Proofs.YtiafhcgaikapcaaGreat
