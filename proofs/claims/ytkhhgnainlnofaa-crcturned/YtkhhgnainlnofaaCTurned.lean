/-
  For every row of bytes, every line, and every two numbers, CrcTurned returns true and leaves its arguments as they were: if some bits of one byte are turned, the sum is another one, and a sealed line is not good. No condition.
-/
import Derived.Test.YtkhhgnainlnofaaCShown
import Derived.Test.YtkhhgnainlnofaaCTurnMath
import Derived.Test.YtkhhgnainlnofaaLaw
import Derived.Test.YtkhhgnainlnofaaFlat
import Derived.Deep.RegionHeld3
import Derived.Deep.MidRow
import Derived.Deep.Cut
namespace Go.Proofs.Ytkhhgnainlnofaa.crcTurned
open Go.ChangeShapes Go.WideShapes Go.ChangeAt Go.RowKit Go.Joins
set_option linter.unusedVariables false

set_option maxHeartbeats 4000000 in
set_option maxRecDepth 100000 in
theorem walk (W : World) (a : Option Addr) (bs : List Int) (n cap : Nat) (ls : List Int) (x : Int × Int) (hb : IsBytes W a bs n cap) (hls : ls.length = 8 ∧ ∀ z ∈ ls, (Lit.int .u64 z).wf = true) (hx : (Lit.int .i64 x.1).wf = true ∧ (Lit.int .i64 x.2).wf = true) :
    Calls Try.prog 6 #[.slice a n cap, .agg (iv .u64 ls), .agg #[.int .i64 x.1, .int .i64 x.2]] W fun e W' => e = .returned (.bool true) ∧ Below W.heap.size W W' := by
  obtain ⟨x0, x1⟩ := x
  obtain ⟨hl, hw⟩ := hls
  obtain ⟨wx, wy⟩ := hx
  simp only at wx wy ⊢
  obtain ⟨bx0, bx1⟩ := bounds_i64 wx
  obtain ⟨by0, by1⟩ := bounds_i64 wy
  obtain ⟨cs, m, -, ⟨c1, c2, c3, c4, c5, c6⟩, m300, hfew⟩ := few_of hb
  have HF := hide hfew
  have C1 := hide c1
  have C2 := hide c2
  have C3 := hide c3
  clear hfew c1 c2 c3 hb wx wy
  have E0 : Hid (((W.alloc (.cells (iv .u64 ls) 32)).alloc (.cells #[.int .i64 x0, .int .i64 x1] 35)).heap[W.heap.size]? = some (.cells (iv .u64 ls) 32 (0, 0))) := by
    show _ = _
    rw [Below.heap_alloc _ _ _ (by simp), heap_new]
  have E1 : Hid (((W.alloc (.cells (iv .u64 ls) 32)).alloc (.cells #[.int .i64 x0, .int .i64 x1] 35)).heap[W.heap.size + 1]? = some (.cells #[.int .i64 x0, .int .i64 x1] 35 (0, 0))) := by
    show _ = _
    have := heap_new (W.alloc (.cells (iv .u64 ls) 32)) (.cells #[.int .i64 x0, .int .i64 x1] 35)
    simpa using this
  go_enter Try.func6, Try.ntmps6
  go_wp2_with fail
  refine (shown_any _).mono ?_
  rintro e w1 ⟨rfl, hb1⟩
  have K0 := hide ((hb1.block W.heap.size (by simp; omega)).trans (unhide E0))
  have K1 := hide ((hb1.block (W.heap.size + 1) (by simp)).trans (unhide E1))
  have Hb1 : Hid (Below W.heap.size W w1) := (below_alloc2 W _ _).trans (hb1.mono (by simp; omega))
  have hs1 : W.heap.size + 2 ≤ w1.heap.size := by have := hb1.size; simp at this; omega
  have ex0 : w1.cell? ⟨W.heap.size + 1, 0, none⟩ = some (.int .i64 x0) := by rw [cell_of_block (unhide K1)]; rfl
  have ex1 : w1.cell? ⟨W.heap.size + 1, 1, none⟩ = some (.int .i64 x1) := by rw [cell_of_block (unhide K1)]; rfl
  clear hb1 E0 E1
  go_wp2_with fail
  refine (unhide HF _ _ (Nat.le_refl _) (unhide Hb1)).mono ?_
  rintro e w1 ⟨rfl, rfl⟩
  have Hb2 : Hid (Below W.heap.size W (w1.alloc (.cells #[] 5))) := (unhide Hb1).alloc (by omega) _
  have O2 : Hid ((w1.alloc (.cells #[] 5)).ownsRow (W.heap.size + 2) 5 1 (.slice (some ⟨w1.heap.size, 0, none⟩) 0 0) 0 (([] : List Int).map (Value.int .u8))) := World.ownsRow_lit (base := W.heap.size + 2) (e := 5) (size := 1) w1 #[] 0 hs1 (by decide) rfl
  have s8 : (Try.prog.info? 32).map (·.size) = some (iv .u64 ls).size := by rw [iv_size, hl]; exact size8
  have CS : Hid (∀ w : World, Calls Try.prog 15 #[.agg (iv .u64 ls)] w fun e w' => e = .returned (.agg (iv .u64 (sealOf ls))) ∧ Below w.heap.size w w') := fun w => seal_any ls hl hw w
  have CB : Hid (∀ w : World, Calls Try.prog 19 #[.agg (iv .u64 (sealOf ls))] w fun e w' => e = .returned (.agg (iv .u8 (bytesOf (sealOf ls)))) ∧ Below w.heap.size w w') := fun w => bytes_any (sealOf ls) (by rw [sealOf_len, hl]) (sealOf_wf ls hw) w
  by_cases hm0 : m = 0
  · have HM0 := hide hm0
    have hmi : (m : Int) ≤ 0 := by omega
    have hmb : ((m : Int) == 0) = true := by simp; omega
    clear hm0
    by_cases hneg : x0 < 0
    · obtain ⟨p, rfl, hp⟩ : ∃ p : Nat, x0 = -((p : Int) + 1) ∧ p ≤ 9223372036854775807 := ⟨(-(x0 + 1)).toNat, by omega, by omega⟩
      go_upto_region 6 with fail
      have hpp : -(-((p : Int) + 1) + 1) = (p : Int) := by omega
      rw [hpp]
      clear hpp hneg ex0 bx0 bx1
      go_upto_region 10 with (at_builtin; refine wpList_append_lies rfl (.tmp 26) (.tmp 27) 22 rfl (W.heap.size + 2) 5 Try.underlying22 info8 (.slice (some ⟨w1.heap.size, 0, none⟩) 0 0) 0 [] rfl (unhide O2) a m cap rfl cs (unhide C1) (lies_below (unhide C2) (Nat.le_refl _) (unhide Hb2)) c6 (by omega) (by simp; omega) ?_; intro v1 w2 hown1 hbw1 hn1; rw [Nat.zero_add, List.nil_append] at hown1; obtain ⟨g, cap2, rfl, lg, lgs, l2, l3, l4, l1, l5⟩ := lies_own_some hown1 (hn1 (by simp)); have O3 := hide hown1; have HBW := hide hbw1; have L1 := hide l1; have L5 := hide l5; clear hown1 hbw1 hn1 l1 l5 l2)
      obtain ⟨z, hz, hz256⟩ : ∃ z : Nat, x1 % 256 = (z : Int) ∧ z < 256 := ⟨(x1 % 256).toNat, by omega, by omega⟩
      rw [hz]
      clear hz
      have HV2 : Hid (Below W.heap.size W w2) := (unhide Hb2).trans ((unhide HBW).mono (by omega))
      have KV2 : Hid (w2.heap[W.heap.size]? = some (.cells (iv .u64 ls) 32 (0, 0))) := ((unhide HBW).block W.heap.size (by omega)).trans ((Below.heap_alloc w1 _ W.heap.size (by omega)).trans (unhide K0))
      have hsV2 : W.heap.size + 2 ≤ w2.heap.size := by have := (unhide HBW).size; simp at this; omega
      have KA := KV2
      have HBV := HV2
      have hsV := hsV2
      have Z1 : Hid True := trivial
      have LD : Hid (Lies w2 (some ⟨g, 0, none⟩) cs) := Or.inl (List.length_eq_zero_iff.1 ((unhide C1).trans (unhide HM0)))
      have DL := C1
      have DB := C3
      have LS : Hid (Lies w2 a cs) := lies_below (unhide C2) (Nat.le_refl _) (unhide HBV)
      clear O3 HBW L1 L5 HV2 KV2
      obtain ⟨ds, hds⟩ : ∃ ds, ds = cs := ⟨_, rfl⟩
      have HDS := hide hds
      clear hds
      rw [← unhide HDS] at LD DL DB
      have Z0 : Hid (z = 0 → moreN 0 ds = moreN 0 cs) := fun _ => by rw [unhide HDS]
      clear HDS
      generalize w2 = V at *
      go_wp2_with (refine wpList_load_row rfl 32 _ rfl _ rfl _ _ _ _ (unhide KA) Try.underlying32 rfl s8 ?_)
      refine (unhide CS _).mono ?_
      rintro e w4 ⟨rfl, hb4⟩
      have HB4 := hide hb4
      clear hb4
      have hst : ∀ (U : World) (C : Array Value), C.size = 8 → Sem.run Try.prog (storeCells ⟨U.heap.size, 0, none⟩ (iv .u64 (sealOf ls)).toList) (U.alloc (.cells C 32)) = .ok () (U.alloc (.cells (iv .u64 (sealOf ls)) 32)) :=
        fun U C hC => run_store_new _ _ rfl C _ _ (by rw [hC, iv_size, sealOf_len, hl]) (iv_one _ _)
      have hsz8 : (iv .u64 (sealOf ls)).size = 8 := by rw [iv_size, sealOf_len, hl]
      go_upto_region 11 with fail
      clear hst
      have s8b : (Try.prog.info? 32).map (·.size) = some (iv .u64 (sealOf ls)).size := by rw [hsz8]; exact size8
      have HB5 : Hid (Below V.heap.size V (w4.alloc (.cells (iv .u64 (sealOf ls)) 32))) := (unhide HB4).alloc (unhide HB4).size _
      have K5 := hide (heap_new w4 (.cells (iv .u64 (sealOf ls)) 32))
      clear hsz8
      go_wp2_with (refine wpList_load_row rfl 32 _ rfl _ rfl _ _ _ _ (unhide K5) Try.underlying32 rfl s8b ?_)
      refine (unhide CB _).mono ?_
      rintro e w6 ⟨rfl, hb6⟩
      have HB6 : Hid (Below V.heap.size V w6) := (unhide HB5).trans (hb6.mono (unhide HB5).size)
      clear hb6 K5 HB5 HB4
      have hst : ∀ (U : World) (C : Array Value), C.size = 64 → Sem.run Try.prog (storeCells ⟨U.heap.size, 0, none⟩ (iv .u8 (bytesOf (sealOf ls))).toList) (U.alloc (.cells C 36)) = .ok () (U.alloc (.cells (iv .u8 (bytesOf (sealOf ls))) 36)) :=
        fun U C hC => run_store_new _ _ rfl C _ _ (by rw [hC, iv_size, bytesOf_len]) (iv_one _ _)
      have hsz64 : (iv .u8 (bytesOf (sealOf ls))).size = 64 := by rw [iv_size, bytesOf_len]
      go_upto_region 12 with fail
      clear hst hsz64
      have HB7 : Hid (Below V.heap.size V (w6.alloc (.cells (iv .u8 (bytesOf (sealOf ls))) 36))) := (unhide HB6).alloc (unhide HB6).size _
      have K7 := hide (heap_new w6 (.cells (iv .u8 (bytesOf (sealOf ls))) 36))
      obtain ⟨G, hG⟩ : ∃ G, G = w6.heap.size := ⟨_, rfl⟩
      have hGV : V.heap.size ≤ G := by rw [hG]; exact (unhide HB6).size
      rw [← hG] at K7
      rw [← hG]
      generalize w6.alloc (.cells (iv .u8 (bytesOf (sealOf ls))) 36) = U at *
      clear hG HB6
      clear w6
      have hp64 : p % 64 < 64 := Nat.mod_lt _ (by decide)
      obtain ⟨tv, htv⟩ : ∃ tv, tv = (bytesOf (sealOf ls)).getD (p % 64) 0 := ⟨_, rfl⟩
      have tvb : 0 ≤ tv ∧ tv ≤ 255 := by rw [htv]; exact b8_get (bytesOf_b8 _) _
      have cq : U.cell? ⟨G, p % 64, none⟩ = some (.int .u8 tv) := by rw [cell_of_block (unhide K7), iv_get _ _ _ (by rw [bytesOf_len]; exact hp64), htv]
      have fq : U.frozen? ⟨G, p % 64, none⟩ = false := unfrozen_of_block (unhide K7) _
      have q0 : 0 ≤ (p : Int) % 64 := Int.emod_nonneg _ (by omega)
      have q1 : (p : Int) % 64 < 64 := Int.emod_lt_of_pos _ (by omega)
      have HTV := hide htv
      clear htv
      go_upto_region 13 with fail
      have KT : Hid ((U.setCell ⟨G, p % 64, none⟩ (.int .u8 (bits .xor .u8 tv (z : Int)))).heap[G]? = some (.cells (iv .u8 ((bytesOf (sealOf ls)).set (p % 64) ((tv.toNat ^^^ z : Nat) : Int))) 36 (0, 0))) :=
        (block_setCell (unhide K7) _).trans (by rw [iv_set, xor_turn tv tvb z hz256])
      have HBY : Hid (Below V.heap.size V (U.setCell ⟨G, p % 64, none⟩ (.int .u8 (bits .xor .u8 tv (z : Int))))) := (unhide HB7).setCell (p := ⟨G, p % 64, none⟩) hGV _
      clear K7 HB7 cq fq q0 q1
      generalize U.setCell ⟨G, p % 64, none⟩ (.int .u8 (bits .xor .u8 tv (z : Int))) = Y at *
      have HBW : Hid (Below W.heap.size W Y) := (unhide HBV).trans ((unhide HBY).mono (by omega))
      have LDY : Hid (Lies Y (some ⟨g, 0, none⟩) ds) := lies_below (unhide LD) (Nat.le_refl _) (unhide HBY)
      have LSY : Hid (Lies Y a cs) := lies_below (unhide LS) (Nat.le_refl _) (unhide HBY)
      have QD : Hid (Calls Try.prog 11 #[.slice (some ⟨g, 0, none⟩) m cap2] Y fun e w' => e = .returned (.int .u32 ((moreN 0 ds : Nat) : Int)) ∧ w' = Y) := sum_len _ ds m cap2 (unhide DL) (unhide DB) (by omega) _ (unhide LDY)
      have QS : Hid (Calls Try.prog 11 #[.slice a m cap] Y fun e w' => e = .returned (.int .u32 ((moreN 0 cs : Nat) : Int)) ∧ w' = Y) := sum_len a cs m cap (unhide C1) (unhide C3) (by omega) _ (unhide LSY)
      clear HBV HBY LD LS KA CS CB
      by_cases hz0 : z = 0
      · subst hz0
        have e0 := unhide Z0 rfl
        rw [e0] at QD
        clear e0 Z0 Z1
        generalize moreN 0 cs = sc at *
        go_wp2_with fail
        refine (unhide QD).mono ?_
        rintro e Y ⟨rfl, rfl⟩
        go_wp2_with fail
        refine (unhide QS).mono ?_
        rintro e Y ⟨rfl, rfl⟩
        go_wp2_with fail
        go_ret
        exact ⟨rfl, unhide HBW⟩
      · have TB : Hid (Bytes8 ((bytesOf (sealOf ls)).set (p % 64) ((tv.toNat ^^^ z : Nat) : Int))) := b8_set (bytesOf_b8 _) _ _ (xor_bd tv tvb z hz256)
        have TL : Hid (((bytesOf (sealOf ls)).set (p % 64) ((tv.toNat ^^^ z : Nat) : Int)).length = 64) := by show _ = _; rw [List.length_set, bytesOf_len]
        have TG : Hid (goodB (lineOf ((bytesOf (sealOf ls)).set (p % 64) ((tv.toNat ^^^ z : Nat) : Int))) = false) := good_turned ls hl (wfs_u64 (sealOf_wf ls hw)) _ hp64 _ (xor_bd tv tvb z hz256) (by rw [← unhide HTV]; exact xor_other tv tvb.1 z hz0)
        clear HTV tvb
        generalize (bytesOf (sealOf ls)).set (p % 64) ((tv.toNat ^^^ z : Nat) : Int) = ts at *
        have tw : ∀ y ∈ ts, (Lit.int .u8 y).wf = true := fun y hy => by
          have := unhide TB y hy
          simp [Lit.wf, IntKind.min, IntKind.max, IntKind.signed, IntKind.bits]; omega
        have lw : ∀ y ∈ lineOf ts, (Lit.int .u64 y).wf = true := fun y hy => by
          have := lineOf_bd ts (fun n => b8_get (unhide TB) n) y hy
          simp [Lit.wf, IntKind.min, IntKind.max, IntKind.signed, IntKind.bits]; omega
        have CO : Hid (∀ w : World, Calls Try.prog 20 #[.agg (iv .u8 ts)] w fun e w' => e = .returned (.agg (iv .u64 (lineOf ts))) ∧ Below w.heap.size w w') := fun w => ofBytes_any ts (unhide TL) tw w
        have CG : Hid (∀ w : World, Calls Try.prog 17 #[.agg (iv .u64 (lineOf ts))] w fun e w' => e = .returned (.bool false) ∧ Below w.heap.size w w') := fun w => by
          rw [← unhide TG]; exact good_any (lineOf ts) (lineOf_len _) lw w
        have s64 : (Try.prog.info? 36).map (·.size) = some (iv .u8 ts).size := by rw [iv_size, unhide TL]; exact size64
        clear tw lw
        have hzi : ((z : Int) == 0) = false := by simp; omega
        clear Z0
        go_wp2_with (refine wpList_load_row_g rfl 36 _ rfl _ rfl _ _ _ _ (unhide KT) Try.underlying36 rfl s64 ?_)
        refine (unhide CO _).mono ?_
        rintro e w8 ⟨rfl, hb8⟩
        have HB8 : Hid (Below W.heap.size W w8) := (unhide HBW).trans (hb8.mono (unhide HBW).size)
        clear hb8
        go_wp2_with fail
        refine (unhide CG _).mono ?_
        rintro e w9 ⟨rfl, hb9⟩
        have HB9 : Hid (Below W.heap.size W w9) := (unhide HB8).trans (hb9.mono (unhide HB8).size)
        clear hb9
        go_wp2_with fail
        go_ret
        exact ⟨rfl, unhide HB9⟩
    · obtain ⟨p, rfl, hp⟩ : ∃ p : Nat, x0 = (p : Int) ∧ p ≤ 9223372036854775807 := ⟨x0.toNat, by omega, by omega⟩
      go_upto_region 10 with (at_builtin; refine wpList_append_lies rfl (.tmp 26) (.tmp 27) 22 rfl (W.heap.size + 2) 5 Try.underlying22 info8 (.slice (some ⟨w1.heap.size, 0, none⟩) 0 0) 0 [] rfl (unhide O2) a m cap rfl cs (unhide C1) (lies_below (unhide C2) (Nat.le_refl _) (unhide Hb2)) c6 (by omega) (by simp; omega) ?_; intro v1 w2 hown1 hbw1 hn1; rw [Nat.zero_add, List.nil_append] at hown1; obtain ⟨g, cap2, rfl, lg, lgs, l2, l3, l4, l1, l5⟩ := lies_own_some hown1 (hn1 (by simp)); have O3 := hide hown1; have HBW := hide hbw1; have L1 := hide l1; have L5 := hide l5; clear hown1 hbw1 hn1 l1 l5 l2)
      obtain ⟨z, hz, hz256⟩ : ∃ z : Nat, x1 % 256 = (z : Int) ∧ z < 256 := ⟨(x1 % 256).toNat, by omega, by omega⟩
      rw [hz]
      clear hz
      have HV2 : Hid (Below W.heap.size W w2) := (unhide Hb2).trans ((unhide HBW).mono (by omega))
      have KV2 : Hid (w2.heap[W.heap.size]? = some (.cells (iv .u64 ls) 32 (0, 0))) := ((unhide HBW).block W.heap.size (by omega)).trans ((Below.heap_alloc w1 _ W.heap.size (by omega)).trans (unhide K0))
      have hsV2 : W.heap.size + 2 ≤ w2.heap.size := by have := (unhide HBW).size; simp at this; omega
      have KA := KV2
      have HBV := HV2
      have hsV := hsV2
      have Z1 : Hid True := trivial
      have LD : Hid (Lies w2 (some ⟨g, 0, none⟩) cs) := Or.inl (List.length_eq_zero_iff.1 ((unhide C1).trans (unhide HM0)))
      have DL := C1
      have DB := C3
      have LS : Hid (Lies w2 a cs) := lies_below (unhide C2) (Nat.le_refl _) (unhide HBV)
      clear O3 HBW L1 L5 HV2 KV2
      obtain ⟨ds, hds⟩ : ∃ ds, ds = cs := ⟨_, rfl⟩
      have HDS := hide hds
      clear hds
      rw [← unhide HDS] at LD DL DB
      have Z0 : Hid (z = 0 → moreN 0 ds = moreN 0 cs) := fun _ => by rw [unhide HDS]
      clear HDS
      generalize w2 = V at *
      go_wp2_with (refine wpList_load_row rfl 32 _ rfl _ rfl _ _ _ _ (unhide KA) Try.underlying32 rfl s8 ?_)
      refine (unhide CS _).mono ?_
      rintro e w4 ⟨rfl, hb4⟩
      have HB4 := hide hb4
      clear hb4
      have hst : ∀ (U : World) (C : Array Value), C.size = 8 → Sem.run Try.prog (storeCells ⟨U.heap.size, 0, none⟩ (iv .u64 (sealOf ls)).toList) (U.alloc (.cells C 32)) = .ok () (U.alloc (.cells (iv .u64 (sealOf ls)) 32)) :=
        fun U C hC => run_store_new _ _ rfl C _ _ (by rw [hC, iv_size, sealOf_len, hl]) (iv_one _ _)
      have hsz8 : (iv .u64 (sealOf ls)).size = 8 := by rw [iv_size, sealOf_len, hl]
      go_upto_region 11 with fail
      clear hst
      have s8b : (Try.prog.info? 32).map (·.size) = some (iv .u64 (sealOf ls)).size := by rw [hsz8]; exact size8
      have HB5 : Hid (Below V.heap.size V (w4.alloc (.cells (iv .u64 (sealOf ls)) 32))) := (unhide HB4).alloc (unhide HB4).size _
      have K5 := hide (heap_new w4 (.cells (iv .u64 (sealOf ls)) 32))
      clear hsz8
      go_wp2_with (refine wpList_load_row rfl 32 _ rfl _ rfl _ _ _ _ (unhide K5) Try.underlying32 rfl s8b ?_)
      refine (unhide CB _).mono ?_
      rintro e w6 ⟨rfl, hb6⟩
      have HB6 : Hid (Below V.heap.size V w6) := (unhide HB5).trans (hb6.mono (unhide HB5).size)
      clear hb6 K5 HB5 HB4
      have hst : ∀ (U : World) (C : Array Value), C.size = 64 → Sem.run Try.prog (storeCells ⟨U.heap.size, 0, none⟩ (iv .u8 (bytesOf (sealOf ls))).toList) (U.alloc (.cells C 36)) = .ok () (U.alloc (.cells (iv .u8 (bytesOf (sealOf ls))) 36)) :=
        fun U C hC => run_store_new _ _ rfl C _ _ (by rw [hC, iv_size, bytesOf_len]) (iv_one _ _)
      have hsz64 : (iv .u8 (bytesOf (sealOf ls))).size = 64 := by rw [iv_size, bytesOf_len]
      go_upto_region 12 with fail
      clear hst hsz64
      have HB7 : Hid (Below V.heap.size V (w6.alloc (.cells (iv .u8 (bytesOf (sealOf ls))) 36))) := (unhide HB6).alloc (unhide HB6).size _
      have K7 := hide (heap_new w6 (.cells (iv .u8 (bytesOf (sealOf ls))) 36))
      obtain ⟨G, hG⟩ : ∃ G, G = w6.heap.size := ⟨_, rfl⟩
      have hGV : V.heap.size ≤ G := by rw [hG]; exact (unhide HB6).size
      rw [← hG] at K7
      rw [← hG]
      generalize w6.alloc (.cells (iv .u8 (bytesOf (sealOf ls))) 36) = U at *
      clear hG HB6
      clear w6
      have hp64 : p % 64 < 64 := Nat.mod_lt _ (by decide)
      obtain ⟨tv, htv⟩ : ∃ tv, tv = (bytesOf (sealOf ls)).getD (p % 64) 0 := ⟨_, rfl⟩
      have tvb : 0 ≤ tv ∧ tv ≤ 255 := by rw [htv]; exact b8_get (bytesOf_b8 _) _
      have cq : U.cell? ⟨G, p % 64, none⟩ = some (.int .u8 tv) := by rw [cell_of_block (unhide K7), iv_get _ _ _ (by rw [bytesOf_len]; exact hp64), htv]
      have fq : U.frozen? ⟨G, p % 64, none⟩ = false := unfrozen_of_block (unhide K7) _
      have q0 : 0 ≤ (p : Int) % 64 := Int.emod_nonneg _ (by omega)
      have q1 : (p : Int) % 64 < 64 := Int.emod_lt_of_pos _ (by omega)
      have HTV := hide htv
      clear htv
      go_upto_region 13 with fail
      have KT : Hid ((U.setCell ⟨G, p % 64, none⟩ (.int .u8 (bits .xor .u8 tv (z : Int)))).heap[G]? = some (.cells (iv .u8 ((bytesOf (sealOf ls)).set (p % 64) ((tv.toNat ^^^ z : Nat) : Int))) 36 (0, 0))) :=
        (block_setCell (unhide K7) _).trans (by rw [iv_set, xor_turn tv tvb z hz256])
      have HBY : Hid (Below V.heap.size V (U.setCell ⟨G, p % 64, none⟩ (.int .u8 (bits .xor .u8 tv (z : Int))))) := (unhide HB7).setCell (p := ⟨G, p % 64, none⟩) hGV _
      clear K7 HB7 cq fq q0 q1
      generalize U.setCell ⟨G, p % 64, none⟩ (.int .u8 (bits .xor .u8 tv (z : Int))) = Y at *
      have HBW : Hid (Below W.heap.size W Y) := (unhide HBV).trans ((unhide HBY).mono (by omega))
      have LDY : Hid (Lies Y (some ⟨g, 0, none⟩) ds) := lies_below (unhide LD) (Nat.le_refl _) (unhide HBY)
      have LSY : Hid (Lies Y a cs) := lies_below (unhide LS) (Nat.le_refl _) (unhide HBY)
      have QD : Hid (Calls Try.prog 11 #[.slice (some ⟨g, 0, none⟩) m cap2] Y fun e w' => e = .returned (.int .u32 ((moreN 0 ds : Nat) : Int)) ∧ w' = Y) := sum_len _ ds m cap2 (unhide DL) (unhide DB) (by omega) _ (unhide LDY)
      have QS : Hid (Calls Try.prog 11 #[.slice a m cap] Y fun e w' => e = .returned (.int .u32 ((moreN 0 cs : Nat) : Int)) ∧ w' = Y) := sum_len a cs m cap (unhide C1) (unhide C3) (by omega) _ (unhide LSY)
      clear HBV HBY LD LS KA CS CB
      by_cases hz0 : z = 0
      · subst hz0
        have e0 := unhide Z0 rfl
        rw [e0] at QD
        clear e0 Z0 Z1
        generalize moreN 0 cs = sc at *
        go_wp2_with fail
        refine (unhide QD).mono ?_
        rintro e Y ⟨rfl, rfl⟩
        go_wp2_with fail
        refine (unhide QS).mono ?_
        rintro e Y ⟨rfl, rfl⟩
        go_wp2_with fail
        go_ret
        exact ⟨rfl, unhide HBW⟩
      · have TB : Hid (Bytes8 ((bytesOf (sealOf ls)).set (p % 64) ((tv.toNat ^^^ z : Nat) : Int))) := b8_set (bytesOf_b8 _) _ _ (xor_bd tv tvb z hz256)
        have TL : Hid (((bytesOf (sealOf ls)).set (p % 64) ((tv.toNat ^^^ z : Nat) : Int)).length = 64) := by show _ = _; rw [List.length_set, bytesOf_len]
        have TG : Hid (goodB (lineOf ((bytesOf (sealOf ls)).set (p % 64) ((tv.toNat ^^^ z : Nat) : Int))) = false) := good_turned ls hl (wfs_u64 (sealOf_wf ls hw)) _ hp64 _ (xor_bd tv tvb z hz256) (by rw [← unhide HTV]; exact xor_other tv tvb.1 z hz0)
        clear HTV tvb
        generalize (bytesOf (sealOf ls)).set (p % 64) ((tv.toNat ^^^ z : Nat) : Int) = ts at *
        have tw : ∀ y ∈ ts, (Lit.int .u8 y).wf = true := fun y hy => by
          have := unhide TB y hy
          simp [Lit.wf, IntKind.min, IntKind.max, IntKind.signed, IntKind.bits]; omega
        have lw : ∀ y ∈ lineOf ts, (Lit.int .u64 y).wf = true := fun y hy => by
          have := lineOf_bd ts (fun n => b8_get (unhide TB) n) y hy
          simp [Lit.wf, IntKind.min, IntKind.max, IntKind.signed, IntKind.bits]; omega
        have CO : Hid (∀ w : World, Calls Try.prog 20 #[.agg (iv .u8 ts)] w fun e w' => e = .returned (.agg (iv .u64 (lineOf ts))) ∧ Below w.heap.size w w') := fun w => ofBytes_any ts (unhide TL) tw w
        have CG : Hid (∀ w : World, Calls Try.prog 17 #[.agg (iv .u64 (lineOf ts))] w fun e w' => e = .returned (.bool false) ∧ Below w.heap.size w w') := fun w => by
          rw [← unhide TG]; exact good_any (lineOf ts) (lineOf_len _) lw w
        have s64 : (Try.prog.info? 36).map (·.size) = some (iv .u8 ts).size := by rw [iv_size, unhide TL]; exact size64
        clear tw lw
        have hzi : ((z : Int) == 0) = false := by simp; omega
        clear Z0
        go_wp2_with (refine wpList_load_row_g rfl 36 _ rfl _ rfl _ _ _ _ (unhide KT) Try.underlying36 rfl s64 ?_)
        refine (unhide CO _).mono ?_
        rintro e w8 ⟨rfl, hb8⟩
        have HB8 : Hid (Below W.heap.size W w8) := (unhide HBW).trans (hb8.mono (unhide HBW).size)
        clear hb8
        go_wp2_with fail
        refine (unhide CG _).mono ?_
        rintro e w9 ⟨rfl, hb9⟩
        have HB9 : Hid (Below W.heap.size W w9) := (unhide HB8).trans (hb9.mono (unhide HB8).size)
        clear hb9
        go_wp2_with fail
        go_ret
        exact ⟨rfl, unhide HB9⟩
  · have hmp : 0 < m := by omega
    by_cases hneg : x0 < 0
    · obtain ⟨p, rfl, hp⟩ : ∃ p : Nat, x0 = -((p : Int) + 1) ∧ p ≤ 9223372036854775807 := ⟨(-(x0 + 1)).toNat, by omega, by omega⟩
      go_upto_region 6 with fail
      have hpp : -(-((p : Int) + 1) + 1) = (p : Int) := by omega
      rw [hpp]
      clear hpp hneg ex0 bx0 bx1
      go_wp2_with (at_builtin; refine wpList_append_lies rfl (.tmp 26) (.tmp 27) 22 rfl (W.heap.size + 2) 5 Try.underlying22 info8 (.slice (some ⟨w1.heap.size, 0, none⟩) 0 0) 0 [] rfl (unhide O2) a m cap rfl cs (unhide C1) (lies_below (unhide C2) (Nat.le_refl _) (unhide Hb2)) c6 (by omega) (by simp; omega) ?_; intro v1 w2 hown1 hbw1 hn1; rw [Nat.zero_add, List.nil_append] at hown1; obtain ⟨g, cap2, rfl, lg, lgs, l2, l3, l4, l1, l5⟩ := lies_own_some hown1 (hn1 (by simp)); have O3 := hide hown1; have HBW := hide hbw1; have L1 := hide l1; have L5 := hide l5; clear hown1 hbw1 hn1 l1 l5 l2)
      obtain ⟨z, hz, hz256⟩ : ∃ z : Nat, x1 % 256 = (z : Int) ∧ z < 256 := ⟨(x1 % 256).toNat, by omega, by omega⟩
      rw [hz]
      clear hz
      have HV2 : Hid (Below W.heap.size W w2) := (unhide Hb2).trans ((unhide HBW).mono (by omega))
      have KV2 : Hid (w2.heap[W.heap.size]? = some (.cells (iv .u64 ls) 32 (0, 0))) := ((unhide HBW).block W.heap.size (by omega)).trans ((Below.heap_alloc w1 _ W.heap.size (by omega)).trans (unhide K0))
      have hsV2 : W.heap.size + 2 ≤ w2.heap.size := by have := (unhide HBW).size; simp at this; omega
      have hq : p % m < m := Nat.mod_lt _ hmp
      obtain ⟨cv, hcv⟩ : ∃ cv, cv = cs.getD (p % m) 0 := ⟨_, rfl⟩
      have cq : w2.cell? ⟨g, p % m, none⟩ = some (.int .u8 cv) := by rw [hcv]; exact unhide L1 _ (by rw [unhide C1]; exact hq)
      have fq : w2.frozen? ⟨g, p % m, none⟩ = false := unhide L5 _
      have HCV := hide hcv
      have cvb : 0 ≤ cv ∧ cv ≤ 255 := by rw [hcv]; exact b8_get (unhide C3) _
      clear hcv
      have q0 : 0 ≤ (p : Int) % (m : Int) := Int.emod_nonneg _ (by omega)
      have q1 : (p : Int) % (m : Int) < (m : Int) := Int.emod_lt_of_pos _ (by omega)
      go_region
      go_upto_region 10 with fail
      have KA : Hid (((w2.setCell ⟨g, p % m, none⟩ (.int .u8 (bits .xor .u8 cv (z : Int)))).drew).heap[W.heap.size]? = some (.cells (iv .u64 ls) 32 (0, 0))) := (heap_setCell_other w2 ⟨g, p % m, none⟩ W.heap.size _ (by simp; omega)).trans (unhide KV2)
      have HBV : Hid (Below W.heap.size W ((w2.setCell ⟨g, p % m, none⟩ (.int .u8 (bits .xor .u8 cv (z : Int)))).drew)) := ((unhide HV2).setCell (p := ⟨g, p % m, none⟩) (by simp; omega) _).drew
      have hsV : W.heap.size + 2 ≤ ((w2.setCell ⟨g, p % m, none⟩ (.int .u8 (bits .xor .u8 cv (z : Int)))).drew).heap.size := by show _ ≤ (w2.setCell _ _).heap.size; simpa [World.setCell] using hsV2
      have LD : Hid (Lies ((w2.setCell ⟨g, p % m, none⟩ (.int .u8 (bits .xor .u8 cv (z : Int)))).drew) (some ⟨g, 0, none⟩) (cs.set (p % m) ((cv.toNat ^^^ z : Nat) : Int))) := lies_set (unhide O3) (unhide C1) (p % m) _ _ (xor_turn cv cvb z hz256)
      have DL : Hid ((cs.set (p % m) ((cv.toNat ^^^ z : Nat) : Int)).length = m) := by show _ = _; rw [List.length_set]; exact unhide C1
      have DB : Hid (Bytes8 (cs.set (p % m) ((cv.toNat ^^^ z : Nat) : Int))) := b8_set (unhide C3) _ _ (xor_bd cv cvb z hz256)
      have Z0 : Hid (z = 0 → moreN 0 (cs.set (p % m) ((cv.toNat ^^^ z : Nat) : Int)) = moreN 0 cs) := fun h => by
        rw [h, xor_same cv cvb.1, unhide HCV, List.getD_eq_getElem?_getD, List.getElem?_eq_getElem (by rw [unhide C1]; exact hq)]
        show moreN 0 (cs.set (p % m) (cs[p % m]'(by rw [unhide C1]; exact hq))) = _
        rw [List.set_getElem_self]
      have Z1 : Hid (z ≠ 0 → moreN 0 (cs.set (p % m) ((cv.toNat ^^^ z : Nat) : Int)) ≠ moreN 0 cs) := fun h => sum_turned cs (unhide C3) _ (by rw [unhide C1]; exact hq) _ (xor_bd cv cvb z hz256) (by rw [← unhide HCV]; exact xor_other cv cvb.1 z h)
      generalize cs.set (p % m) ((cv.toNat ^^^ z : Nat) : Int) = ds at *
      generalize (w2.setCell ⟨g, p % m, none⟩ (.int .u8 (bits .xor .u8 cv (z : Int)))).drew = V at *
      have LS : Hid (Lies V a cs) := lies_below (unhide C2) (Nat.le_refl _) (unhide HBV)
      clear cq fq q0 q1 HCV cvb O3 HBW L1 L5 HV2 KV2
      go_wp2_with (refine wpList_load_row rfl 32 _ rfl _ rfl _ _ _ _ (unhide KA) Try.underlying32 rfl s8 ?_)
      refine (unhide CS _).mono ?_
      rintro e w4 ⟨rfl, hb4⟩
      have HB4 := hide hb4
      clear hb4
      have hst : ∀ (U : World) (C : Array Value), C.size = 8 → Sem.run Try.prog (storeCells ⟨U.heap.size, 0, none⟩ (iv .u64 (sealOf ls)).toList) (U.alloc (.cells C 32)) = .ok () (U.alloc (.cells (iv .u64 (sealOf ls)) 32)) :=
        fun U C hC => run_store_new _ _ rfl C _ _ (by rw [hC, iv_size, sealOf_len, hl]) (iv_one _ _)
      have hsz8 : (iv .u64 (sealOf ls)).size = 8 := by rw [iv_size, sealOf_len, hl]
      go_upto_region 11 with fail
      clear hst
      have s8b : (Try.prog.info? 32).map (·.size) = some (iv .u64 (sealOf ls)).size := by rw [hsz8]; exact size8
      have HB5 : Hid (Below V.heap.size V (w4.alloc (.cells (iv .u64 (sealOf ls)) 32))) := (unhide HB4).alloc (unhide HB4).size _
      have K5 := hide (heap_new w4 (.cells (iv .u64 (sealOf ls)) 32))
      clear hsz8
      go_wp2_with (refine wpList_load_row rfl 32 _ rfl _ rfl _ _ _ _ (unhide K5) Try.underlying32 rfl s8b ?_)
      refine (unhide CB _).mono ?_
      rintro e w6 ⟨rfl, hb6⟩
      have HB6 : Hid (Below V.heap.size V w6) := (unhide HB5).trans (hb6.mono (unhide HB5).size)
      clear hb6 K5 HB5 HB4
      have hst : ∀ (U : World) (C : Array Value), C.size = 64 → Sem.run Try.prog (storeCells ⟨U.heap.size, 0, none⟩ (iv .u8 (bytesOf (sealOf ls))).toList) (U.alloc (.cells C 36)) = .ok () (U.alloc (.cells (iv .u8 (bytesOf (sealOf ls))) 36)) :=
        fun U C hC => run_store_new _ _ rfl C _ _ (by rw [hC, iv_size, bytesOf_len]) (iv_one _ _)
      have hsz64 : (iv .u8 (bytesOf (sealOf ls))).size = 64 := by rw [iv_size, bytesOf_len]
      go_upto_region 12 with fail
      clear hst hsz64
      have HB7 : Hid (Below V.heap.size V (w6.alloc (.cells (iv .u8 (bytesOf (sealOf ls))) 36))) := (unhide HB6).alloc (unhide HB6).size _
      have K7 := hide (heap_new w6 (.cells (iv .u8 (bytesOf (sealOf ls))) 36))
      obtain ⟨G, hG⟩ : ∃ G, G = w6.heap.size := ⟨_, rfl⟩
      have hGV : V.heap.size ≤ G := by rw [hG]; exact (unhide HB6).size
      rw [← hG] at K7
      rw [← hG]
      generalize w6.alloc (.cells (iv .u8 (bytesOf (sealOf ls))) 36) = U at *
      clear hG HB6
      clear w6
      have hp64 : p % 64 < 64 := Nat.mod_lt _ (by decide)
      obtain ⟨tv, htv⟩ : ∃ tv, tv = (bytesOf (sealOf ls)).getD (p % 64) 0 := ⟨_, rfl⟩
      have tvb : 0 ≤ tv ∧ tv ≤ 255 := by rw [htv]; exact b8_get (bytesOf_b8 _) _
      have cq : U.cell? ⟨G, p % 64, none⟩ = some (.int .u8 tv) := by rw [cell_of_block (unhide K7), iv_get _ _ _ (by rw [bytesOf_len]; exact hp64), htv]
      have fq : U.frozen? ⟨G, p % 64, none⟩ = false := unfrozen_of_block (unhide K7) _
      have q0 : 0 ≤ (p : Int) % 64 := Int.emod_nonneg _ (by omega)
      have q1 : (p : Int) % 64 < 64 := Int.emod_lt_of_pos _ (by omega)
      have HTV := hide htv
      clear htv
      go_upto_region 13 with fail
      have KT : Hid ((U.setCell ⟨G, p % 64, none⟩ (.int .u8 (bits .xor .u8 tv (z : Int)))).heap[G]? = some (.cells (iv .u8 ((bytesOf (sealOf ls)).set (p % 64) ((tv.toNat ^^^ z : Nat) : Int))) 36 (0, 0))) :=
        (block_setCell (unhide K7) _).trans (by rw [iv_set, xor_turn tv tvb z hz256])
      have HBY : Hid (Below V.heap.size V (U.setCell ⟨G, p % 64, none⟩ (.int .u8 (bits .xor .u8 tv (z : Int))))) := (unhide HB7).setCell (p := ⟨G, p % 64, none⟩) hGV _
      clear K7 HB7 cq fq q0 q1
      generalize U.setCell ⟨G, p % 64, none⟩ (.int .u8 (bits .xor .u8 tv (z : Int))) = Y at *
      have HBW : Hid (Below W.heap.size W Y) := (unhide HBV).trans ((unhide HBY).mono (by omega))
      have LDY : Hid (Lies Y (some ⟨g, 0, none⟩) ds) := lies_below (unhide LD) (Nat.le_refl _) (unhide HBY)
      have LSY : Hid (Lies Y a cs) := lies_below (unhide LS) (Nat.le_refl _) (unhide HBY)
      have QD : Hid (Calls Try.prog 11 #[.slice (some ⟨g, 0, none⟩) m cap2] Y fun e w' => e = .returned (.int .u32 ((moreN 0 ds : Nat) : Int)) ∧ w' = Y) := sum_len _ ds m cap2 (unhide DL) (unhide DB) (by omega) _ (unhide LDY)
      have QS : Hid (Calls Try.prog 11 #[.slice a m cap] Y fun e w' => e = .returned (.int .u32 ((moreN 0 cs : Nat) : Int)) ∧ w' = Y) := sum_len a cs m cap (unhide C1) (unhide C3) (by omega) _ (unhide LSY)
      clear HBV HBY LD LS KA CS CB
      by_cases hz0 : z = 0
      · subst hz0
        have e0 := unhide Z0 rfl
        rw [e0] at QD
        clear e0 Z0 Z1
        generalize moreN 0 cs = sc at *
        go_wp2_with fail
        refine (unhide QD).mono ?_
        rintro e Y ⟨rfl, rfl⟩
        go_wp2_with fail
        refine (unhide QS).mono ?_
        rintro e Y ⟨rfl, rfl⟩
        go_wp2_with fail
        go_ret
        exact ⟨rfl, unhide HBW⟩
      · have TB : Hid (Bytes8 ((bytesOf (sealOf ls)).set (p % 64) ((tv.toNat ^^^ z : Nat) : Int))) := b8_set (bytesOf_b8 _) _ _ (xor_bd tv tvb z hz256)
        have TL : Hid (((bytesOf (sealOf ls)).set (p % 64) ((tv.toNat ^^^ z : Nat) : Int)).length = 64) := by show _ = _; rw [List.length_set, bytesOf_len]
        have TG : Hid (goodB (lineOf ((bytesOf (sealOf ls)).set (p % 64) ((tv.toNat ^^^ z : Nat) : Int))) = false) := good_turned ls hl (wfs_u64 (sealOf_wf ls hw)) _ hp64 _ (xor_bd tv tvb z hz256) (by rw [← unhide HTV]; exact xor_other tv tvb.1 z hz0)
        clear HTV tvb
        generalize (bytesOf (sealOf ls)).set (p % 64) ((tv.toNat ^^^ z : Nat) : Int) = ts at *
        have tw : ∀ y ∈ ts, (Lit.int .u8 y).wf = true := fun y hy => by
          have := unhide TB y hy
          simp [Lit.wf, IntKind.min, IntKind.max, IntKind.signed, IntKind.bits]; omega
        have lw : ∀ y ∈ lineOf ts, (Lit.int .u64 y).wf = true := fun y hy => by
          have := lineOf_bd ts (fun n => b8_get (unhide TB) n) y hy
          simp [Lit.wf, IntKind.min, IntKind.max, IntKind.signed, IntKind.bits]; omega
        have CO : Hid (∀ w : World, Calls Try.prog 20 #[.agg (iv .u8 ts)] w fun e w' => e = .returned (.agg (iv .u64 (lineOf ts))) ∧ Below w.heap.size w w') := fun w => ofBytes_any ts (unhide TL) tw w
        have CG : Hid (∀ w : World, Calls Try.prog 17 #[.agg (iv .u64 (lineOf ts))] w fun e w' => e = .returned (.bool false) ∧ Below w.heap.size w w') := fun w => by
          rw [← unhide TG]; exact good_any (lineOf ts) (lineOf_len _) lw w
        have s64 : (Try.prog.info? 36).map (·.size) = some (iv .u8 ts).size := by rw [iv_size, unhide TL]; exact size64
        clear tw lw
        have hzi : ((z : Int) == 0) = false := by simp; omega
        have hne := unhide Z1 hz0
        generalize moreN 0 ds = sd at *
        generalize moreN 0 cs = sc at *
        have hni : ((sd : Int) == (sc : Int)) = false := by simp; omega
        have hnj : ((sd : Int) != (sc : Int)) = true := by simp; omega
        clear hne Z0 Z1
        go_wp2_with fail
        refine (unhide QD).mono ?_
        rintro e Y ⟨rfl, rfl⟩
        go_wp2_with fail
        refine (unhide QS).mono ?_
        rintro e Y ⟨rfl, rfl⟩
        go_wp2_with (refine wpList_load_row_g rfl 36 _ rfl _ rfl _ _ _ _ (unhide KT) Try.underlying36 rfl s64 ?_)
        refine (unhide CO _).mono ?_
        rintro e w8 ⟨rfl, hb8⟩
        have HB8 : Hid (Below W.heap.size W w8) := (unhide HBW).trans (hb8.mono (unhide HBW).size)
        clear hb8
        go_wp2_with fail
        refine (unhide CG _).mono ?_
        rintro e w9 ⟨rfl, hb9⟩
        have HB9 : Hid (Below W.heap.size W w9) := (unhide HB8).trans (hb9.mono (unhide HB8).size)
        clear hb9
        go_wp2_with fail
        go_ret
        exact ⟨rfl, unhide HB9⟩
    · obtain ⟨p, rfl, hp⟩ : ∃ p : Nat, x0 = (p : Int) ∧ p ≤ 9223372036854775807 := ⟨x0.toNat, by omega, by omega⟩
      go_wp2_with (at_builtin; refine wpList_append_lies rfl (.tmp 26) (.tmp 27) 22 rfl (W.heap.size + 2) 5 Try.underlying22 info8 (.slice (some ⟨w1.heap.size, 0, none⟩) 0 0) 0 [] rfl (unhide O2) a m cap rfl cs (unhide C1) (lies_below (unhide C2) (Nat.le_refl _) (unhide Hb2)) c6 (by omega) (by simp; omega) ?_; intro v1 w2 hown1 hbw1 hn1; rw [Nat.zero_add, List.nil_append] at hown1; obtain ⟨g, cap2, rfl, lg, lgs, l2, l3, l4, l1, l5⟩ := lies_own_some hown1 (hn1 (by simp)); have O3 := hide hown1; have HBW := hide hbw1; have L1 := hide l1; have L5 := hide l5; clear hown1 hbw1 hn1 l1 l5 l2)
      obtain ⟨z, hz, hz256⟩ : ∃ z : Nat, x1 % 256 = (z : Int) ∧ z < 256 := ⟨(x1 % 256).toNat, by omega, by omega⟩
      rw [hz]
      clear hz
      have HV2 : Hid (Below W.heap.size W w2) := (unhide Hb2).trans ((unhide HBW).mono (by omega))
      have KV2 : Hid (w2.heap[W.heap.size]? = some (.cells (iv .u64 ls) 32 (0, 0))) := ((unhide HBW).block W.heap.size (by omega)).trans ((Below.heap_alloc w1 _ W.heap.size (by omega)).trans (unhide K0))
      have hsV2 : W.heap.size + 2 ≤ w2.heap.size := by have := (unhide HBW).size; simp at this; omega
      have hq : p % m < m := Nat.mod_lt _ hmp
      obtain ⟨cv, hcv⟩ : ∃ cv, cv = cs.getD (p % m) 0 := ⟨_, rfl⟩
      have cq : w2.cell? ⟨g, p % m, none⟩ = some (.int .u8 cv) := by rw [hcv]; exact unhide L1 _ (by rw [unhide C1]; exact hq)
      have fq : w2.frozen? ⟨g, p % m, none⟩ = false := unhide L5 _
      have HCV := hide hcv
      have cvb : 0 ≤ cv ∧ cv ≤ 255 := by rw [hcv]; exact b8_get (unhide C3) _
      clear hcv
      have q0 : 0 ≤ (p : Int) % (m : Int) := Int.emod_nonneg _ (by omega)
      have q1 : (p : Int) % (m : Int) < (m : Int) := Int.emod_lt_of_pos _ (by omega)
      go_region
      go_upto_region 10 with fail
      have KA : Hid (((w2.setCell ⟨g, p % m, none⟩ (.int .u8 (bits .xor .u8 cv (z : Int)))).drew).heap[W.heap.size]? = some (.cells (iv .u64 ls) 32 (0, 0))) := (heap_setCell_other w2 ⟨g, p % m, none⟩ W.heap.size _ (by simp; omega)).trans (unhide KV2)
      have HBV : Hid (Below W.heap.size W ((w2.setCell ⟨g, p % m, none⟩ (.int .u8 (bits .xor .u8 cv (z : Int)))).drew)) := ((unhide HV2).setCell (p := ⟨g, p % m, none⟩) (by simp; omega) _).drew
      have hsV : W.heap.size + 2 ≤ ((w2.setCell ⟨g, p % m, none⟩ (.int .u8 (bits .xor .u8 cv (z : Int)))).drew).heap.size := by show _ ≤ (w2.setCell _ _).heap.size; simpa [World.setCell] using hsV2
      have LD : Hid (Lies ((w2.setCell ⟨g, p % m, none⟩ (.int .u8 (bits .xor .u8 cv (z : Int)))).drew) (some ⟨g, 0, none⟩) (cs.set (p % m) ((cv.toNat ^^^ z : Nat) : Int))) := lies_set (unhide O3) (unhide C1) (p % m) _ _ (xor_turn cv cvb z hz256)
      have DL : Hid ((cs.set (p % m) ((cv.toNat ^^^ z : Nat) : Int)).length = m) := by show _ = _; rw [List.length_set]; exact unhide C1
      have DB : Hid (Bytes8 (cs.set (p % m) ((cv.toNat ^^^ z : Nat) : Int))) := b8_set (unhide C3) _ _ (xor_bd cv cvb z hz256)
      have Z0 : Hid (z = 0 → moreN 0 (cs.set (p % m) ((cv.toNat ^^^ z : Nat) : Int)) = moreN 0 cs) := fun h => by
        rw [h, xor_same cv cvb.1, unhide HCV, List.getD_eq_getElem?_getD, List.getElem?_eq_getElem (by rw [unhide C1]; exact hq)]
        show moreN 0 (cs.set (p % m) (cs[p % m]'(by rw [unhide C1]; exact hq))) = _
        rw [List.set_getElem_self]
      have Z1 : Hid (z ≠ 0 → moreN 0 (cs.set (p % m) ((cv.toNat ^^^ z : Nat) : Int)) ≠ moreN 0 cs) := fun h => sum_turned cs (unhide C3) _ (by rw [unhide C1]; exact hq) _ (xor_bd cv cvb z hz256) (by rw [← unhide HCV]; exact xor_other cv cvb.1 z h)
      generalize cs.set (p % m) ((cv.toNat ^^^ z : Nat) : Int) = ds at *
      generalize (w2.setCell ⟨g, p % m, none⟩ (.int .u8 (bits .xor .u8 cv (z : Int)))).drew = V at *
      have LS : Hid (Lies V a cs) := lies_below (unhide C2) (Nat.le_refl _) (unhide HBV)
      clear cq fq q0 q1 HCV cvb O3 HBW L1 L5 HV2 KV2
      go_wp2_with (refine wpList_load_row rfl 32 _ rfl _ rfl _ _ _ _ (unhide KA) Try.underlying32 rfl s8 ?_)
      refine (unhide CS _).mono ?_
      rintro e w4 ⟨rfl, hb4⟩
      have HB4 := hide hb4
      clear hb4
      have hst : ∀ (U : World) (C : Array Value), C.size = 8 → Sem.run Try.prog (storeCells ⟨U.heap.size, 0, none⟩ (iv .u64 (sealOf ls)).toList) (U.alloc (.cells C 32)) = .ok () (U.alloc (.cells (iv .u64 (sealOf ls)) 32)) :=
        fun U C hC => run_store_new _ _ rfl C _ _ (by rw [hC, iv_size, sealOf_len, hl]) (iv_one _ _)
      have hsz8 : (iv .u64 (sealOf ls)).size = 8 := by rw [iv_size, sealOf_len, hl]
      go_upto_region 11 with fail
      clear hst
      have s8b : (Try.prog.info? 32).map (·.size) = some (iv .u64 (sealOf ls)).size := by rw [hsz8]; exact size8
      have HB5 : Hid (Below V.heap.size V (w4.alloc (.cells (iv .u64 (sealOf ls)) 32))) := (unhide HB4).alloc (unhide HB4).size _
      have K5 := hide (heap_new w4 (.cells (iv .u64 (sealOf ls)) 32))
      clear hsz8
      go_wp2_with (refine wpList_load_row rfl 32 _ rfl _ rfl _ _ _ _ (unhide K5) Try.underlying32 rfl s8b ?_)
      refine (unhide CB _).mono ?_
      rintro e w6 ⟨rfl, hb6⟩
      have HB6 : Hid (Below V.heap.size V w6) := (unhide HB5).trans (hb6.mono (unhide HB5).size)
      clear hb6 K5 HB5 HB4
      have hst : ∀ (U : World) (C : Array Value), C.size = 64 → Sem.run Try.prog (storeCells ⟨U.heap.size, 0, none⟩ (iv .u8 (bytesOf (sealOf ls))).toList) (U.alloc (.cells C 36)) = .ok () (U.alloc (.cells (iv .u8 (bytesOf (sealOf ls))) 36)) :=
        fun U C hC => run_store_new _ _ rfl C _ _ (by rw [hC, iv_size, bytesOf_len]) (iv_one _ _)
      have hsz64 : (iv .u8 (bytesOf (sealOf ls))).size = 64 := by rw [iv_size, bytesOf_len]
      go_upto_region 12 with fail
      clear hst hsz64
      have HB7 : Hid (Below V.heap.size V (w6.alloc (.cells (iv .u8 (bytesOf (sealOf ls))) 36))) := (unhide HB6).alloc (unhide HB6).size _
      have K7 := hide (heap_new w6 (.cells (iv .u8 (bytesOf (sealOf ls))) 36))
      obtain ⟨G, hG⟩ : ∃ G, G = w6.heap.size := ⟨_, rfl⟩
      have hGV : V.heap.size ≤ G := by rw [hG]; exact (unhide HB6).size
      rw [← hG] at K7
      rw [← hG]
      generalize w6.alloc (.cells (iv .u8 (bytesOf (sealOf ls))) 36) = U at *
      clear hG HB6
      clear w6
      have hp64 : p % 64 < 64 := Nat.mod_lt _ (by decide)
      obtain ⟨tv, htv⟩ : ∃ tv, tv = (bytesOf (sealOf ls)).getD (p % 64) 0 := ⟨_, rfl⟩
      have tvb : 0 ≤ tv ∧ tv ≤ 255 := by rw [htv]; exact b8_get (bytesOf_b8 _) _
      have cq : U.cell? ⟨G, p % 64, none⟩ = some (.int .u8 tv) := by rw [cell_of_block (unhide K7), iv_get _ _ _ (by rw [bytesOf_len]; exact hp64), htv]
      have fq : U.frozen? ⟨G, p % 64, none⟩ = false := unfrozen_of_block (unhide K7) _
      have q0 : 0 ≤ (p : Int) % 64 := Int.emod_nonneg _ (by omega)
      have q1 : (p : Int) % 64 < 64 := Int.emod_lt_of_pos _ (by omega)
      have HTV := hide htv
      clear htv
      go_upto_region 13 with fail
      have KT : Hid ((U.setCell ⟨G, p % 64, none⟩ (.int .u8 (bits .xor .u8 tv (z : Int)))).heap[G]? = some (.cells (iv .u8 ((bytesOf (sealOf ls)).set (p % 64) ((tv.toNat ^^^ z : Nat) : Int))) 36 (0, 0))) :=
        (block_setCell (unhide K7) _).trans (by rw [iv_set, xor_turn tv tvb z hz256])
      have HBY : Hid (Below V.heap.size V (U.setCell ⟨G, p % 64, none⟩ (.int .u8 (bits .xor .u8 tv (z : Int))))) := (unhide HB7).setCell (p := ⟨G, p % 64, none⟩) hGV _
      clear K7 HB7 cq fq q0 q1
      generalize U.setCell ⟨G, p % 64, none⟩ (.int .u8 (bits .xor .u8 tv (z : Int))) = Y at *
      have HBW : Hid (Below W.heap.size W Y) := (unhide HBV).trans ((unhide HBY).mono (by omega))
      have LDY : Hid (Lies Y (some ⟨g, 0, none⟩) ds) := lies_below (unhide LD) (Nat.le_refl _) (unhide HBY)
      have LSY : Hid (Lies Y a cs) := lies_below (unhide LS) (Nat.le_refl _) (unhide HBY)
      have QD : Hid (Calls Try.prog 11 #[.slice (some ⟨g, 0, none⟩) m cap2] Y fun e w' => e = .returned (.int .u32 ((moreN 0 ds : Nat) : Int)) ∧ w' = Y) := sum_len _ ds m cap2 (unhide DL) (unhide DB) (by omega) _ (unhide LDY)
      have QS : Hid (Calls Try.prog 11 #[.slice a m cap] Y fun e w' => e = .returned (.int .u32 ((moreN 0 cs : Nat) : Int)) ∧ w' = Y) := sum_len a cs m cap (unhide C1) (unhide C3) (by omega) _ (unhide LSY)
      clear HBV HBY LD LS KA CS CB
      by_cases hz0 : z = 0
      · subst hz0
        have e0 := unhide Z0 rfl
        rw [e0] at QD
        clear e0 Z0 Z1
        generalize moreN 0 cs = sc at *
        go_wp2_with fail
        refine (unhide QD).mono ?_
        rintro e Y ⟨rfl, rfl⟩
        go_wp2_with fail
        refine (unhide QS).mono ?_
        rintro e Y ⟨rfl, rfl⟩
        go_wp2_with fail
        go_ret
        exact ⟨rfl, unhide HBW⟩
      · have TB : Hid (Bytes8 ((bytesOf (sealOf ls)).set (p % 64) ((tv.toNat ^^^ z : Nat) : Int))) := b8_set (bytesOf_b8 _) _ _ (xor_bd tv tvb z hz256)
        have TL : Hid (((bytesOf (sealOf ls)).set (p % 64) ((tv.toNat ^^^ z : Nat) : Int)).length = 64) := by show _ = _; rw [List.length_set, bytesOf_len]
        have TG : Hid (goodB (lineOf ((bytesOf (sealOf ls)).set (p % 64) ((tv.toNat ^^^ z : Nat) : Int))) = false) := good_turned ls hl (wfs_u64 (sealOf_wf ls hw)) _ hp64 _ (xor_bd tv tvb z hz256) (by rw [← unhide HTV]; exact xor_other tv tvb.1 z hz0)
        clear HTV tvb
        generalize (bytesOf (sealOf ls)).set (p % 64) ((tv.toNat ^^^ z : Nat) : Int) = ts at *
        have tw : ∀ y ∈ ts, (Lit.int .u8 y).wf = true := fun y hy => by
          have := unhide TB y hy
          simp [Lit.wf, IntKind.min, IntKind.max, IntKind.signed, IntKind.bits]; omega
        have lw : ∀ y ∈ lineOf ts, (Lit.int .u64 y).wf = true := fun y hy => by
          have := lineOf_bd ts (fun n => b8_get (unhide TB) n) y hy
          simp [Lit.wf, IntKind.min, IntKind.max, IntKind.signed, IntKind.bits]; omega
        have CO : Hid (∀ w : World, Calls Try.prog 20 #[.agg (iv .u8 ts)] w fun e w' => e = .returned (.agg (iv .u64 (lineOf ts))) ∧ Below w.heap.size w w') := fun w => ofBytes_any ts (unhide TL) tw w
        have CG : Hid (∀ w : World, Calls Try.prog 17 #[.agg (iv .u64 (lineOf ts))] w fun e w' => e = .returned (.bool false) ∧ Below w.heap.size w w') := fun w => by
          rw [← unhide TG]; exact good_any (lineOf ts) (lineOf_len _) lw w
        have s64 : (Try.prog.info? 36).map (·.size) = some (iv .u8 ts).size := by rw [iv_size, unhide TL]; exact size64
        clear tw lw
        have hzi : ((z : Int) == 0) = false := by simp; omega
        have hne := unhide Z1 hz0
        generalize moreN 0 ds = sd at *
        generalize moreN 0 cs = sc at *
        have hni : ((sd : Int) == (sc : Int)) = false := by simp; omega
        have hnj : ((sd : Int) != (sc : Int)) = true := by simp; omega
        clear hne Z0 Z1
        go_wp2_with fail
        refine (unhide QD).mono ?_
        rintro e Y ⟨rfl, rfl⟩
        go_wp2_with fail
        refine (unhide QS).mono ?_
        rintro e Y ⟨rfl, rfl⟩
        go_wp2_with (refine wpList_load_row_g rfl 36 _ rfl _ rfl _ _ _ _ (unhide KT) Try.underlying36 rfl s64 ?_)
        refine (unhide CO _).mono ?_
        rintro e w8 ⟨rfl, hb8⟩
        have HB8 : Hid (Below W.heap.size W w8) := (unhide HBW).trans (hb8.mono (unhide HBW).size)
        clear hb8
        go_wp2_with fail
        refine (unhide CG _).mono ?_
        rintro e w9 ⟨rfl, hb9⟩
        have HB9 : Hid (Below W.heap.size W w9) := (unhide HB8).trans (hb9.mono (unhide HB8).size)
        clear hb9
        go_wp2_with fail
        go_ret
        exact ⟨rfl, unhide HB9⟩

theorem open_ints8 {H : Type} {enc : TypeId × Value → H} {W : World} {r : Reach} {b0 base : Nat} {sp : Nat → Bool} {hd : Bool} {v : Value} {d : DataW H} {p : List MemPlace}
    (hv : Value.okWide Try.prog W r b0 32 v) (h : DataW.Trod enc Try.prog W base sp hd 32 v d p) :
    ∃ zs : List Int, v = .agg (iv .u64 zs) ∧ (zs.length = 8 ∧ ∀ z ∈ zs, (Lit.int .u64 z).wf = true) := by
  obtain ⟨cs, rfl, hfit⟩ := flat_open 3 (ks := List.replicate 8 (some .u64)) (by kernel_rfl) (Or.inr ⟨_, _, Try.underlying32⟩) hv h
  obtain ⟨zs, hl, hz, hw⟩ := allFit_ints .u64 8 cs.toList hfit
  exact ⟨zs, by rw [iv, ← hz], hl, hw⟩
theorem open_pair {H : Type} {enc : TypeId × Value → H} {W : World} {r : Reach} {b0 base : Nat} {sp : Nat → Bool} {hd : Bool} {v : Value} {d : DataW H} {p : List MemPlace}
    (hv : Value.okWide Try.prog W r b0 35 v) (h : DataW.Trod enc Try.prog W base sp hd 35 v d p) :
    ∃ x : Int × Int, v = .agg #[.int .i64 x.1, .int .i64 x.2] ∧ ((Lit.int .i64 x.1).wf = true ∧ (Lit.int .i64 x.2).wf = true) := by
  obtain ⟨cs, rfl, hfit⟩ := flat_open 3 (ks := [some .i64, some .i64]) (by kernel_rfl) (Or.inr ⟨_, _, Try.underlying35⟩) hv h
  obtain ⟨zs, hl, hz, hw⟩ := allFit_ints .i64 2 cs.toList hfit
  match zs, hl with
  | [a, b], _ =>
    refine ⟨(a, b), ?_, hw a (by simp), hw b (by simp)⟩
    have : cs = ([a, b].map (fun z => Value.int .i64 z)).toArray := by rw [← hz]
    rw [this]
    rfl

set_option maxRecDepth 100000 in
theorem lifted (os : Os) (started : os.Started) (H : Type) (enc : TypeId × Value → H) :
    ReturnsInHanded {} Try.checked os 6 .any (Rows.crcTurnedSpec.pre6 enc Try.prog Try.f6 Rows.crcTurnedRow.domain false) (Rows.crcTurnedSpec.post enc Try.prog Try.f6 false true false false) := by
  refine law_frame (C := Try.checked) (ts := [22, 32, 35]) (tb := 4) (by kernel_rfl) started (by kernel_rfl) Try.func6 Try.params6 (by kernel_rfl) Try.underlying4 (by kernel_rfl) (by kernel_rfl) rfl ?_
    (ChangeSpec.witness6 (enc := enc) (C := Try.checked) false ⟨#[], #[.slice none 0 0, .agg (iv .u64 (List.replicate 8 0)), .agg #[.int .i64 0, .int .i64 0]], []⟩ 8 (by kernel_rfl) (by kernel_rfl) (by kernel_rfl) (by kernel_rfl)) ?_
  · intro ds hd
    match ds, hd with
    | [d0, d1, d2], _ => rfl
  · intro W base args ds p hval hA
    obtain ⟨v0, vs0, d0, ds0, p0, q0, hargs, rfl, rfl, h0, r0⟩ := trodAll_cons hA
    obtain ⟨v1, vs1, d1, ds1, p1, q1, rfl, rfl, rfl, h1, r1⟩ := trodAll_cons r0
    obtain ⟨v2, vs2, d2, ds2, p2, q2, rfl, rfl, rfl, h2, r2⟩ := trodAll_cons r1
    obtain ⟨rfl, rfl, rfl⟩ := trodAll_nil r2
    obtain rfl : args = #[v0, v1, v2] := by cases args; simp_all
    obtain ⟨au, bu, nu, cu, rfl, hu⟩ := open_row Try.underlying22 Try.underlying5 (by kernel_rfl) (hval 0 22 v0 rfl rfl) h0
    obtain ⟨ls, rfl, hls⟩ := open_ints8 (hval 1 32 v1 rfl rfl) h1
    obtain ⟨xx, rfl, hxx⟩ := open_pair (hval 2 35 v2 rfl rfl) h2
    exact walk W au bu nu cu ls xx hu hls hxx

theorem over : Rows.crcTurnedRow.holds Try.pinned (OpenSpec.ofChange Rows.crcTurnedSpec) :=
  OpenClaim.holds_of_wide 6 Try.f6 rfl rfl rfl rfl rfl rfl rfl ⟨rfl, rfl, rfl, rfl, rfl⟩ rfl rfl rfl rfl rfl (by kernel_rfl) Try.func6 (by kernel_rfl)
    (of_decide_eq_true (by kernel_rfl)) (by unfold Func.isWrapper; first | (rw [if_pos (by decide +kernel)]; kernel_rfl) | (rw [if_neg (by decide +kernel)]; exact ⟨rfl, rfl⟩))
    (fun os started H enc _ => lifted os started H enc)

end Go.Proofs.Ytkhhgnainlnofaa.crcTurned
namespace Go.Proofs.Ytkhhgnainlnofaa
theorem crcTurned_holds : Rows.CrcTurnedSaid := crcTurned.over
end Go.Proofs.Ytkhhgnainlnofaa
