
/-
  For every core, slot, two superblocks, and whenever the power goes off and whatever is kept, SuperWrites returns true and leaves its arguments as they were: a superblock is written, and found, as the document says. No condition.
-/
import Derived.Test.YtmmgacpipcgkdaaPkEnd
import Derived.Test.YtmmgacpipcgkdaaPkTwo
import Derived.Test.YtmmgacpipcgkdaaRows
import Derived.Deep.QuietTactic
import Derived.BigQuiet
namespace Go.Proofs.Ytmmgacpipcgkdaa.superWrites
open Go.ChangeShapes Go.WideShapes Go.ChangeAt Go.RowKit Go.Joins
set_option linter.unusedVariables false
set_option linter.unusedSimpArgs false

theorem two_drewN {W w : World} {G : Nat → Prop} {b y : Nat} {A A' : Mm} (h : Two W w G b y A A') (n : Nat) : Two W (w.drewN n) G b y A A' :=
  (Two.stay W b y A A').bl _ _ _ h ⟨rfl, rfl, rfl, Nat.le_refl _, fun _ _ _ => rfl⟩
theorem two_count {W w : World} {G : Nat → Prop} {b y : Nat} {A A' : Mm} (h : Two W w G b y A A') : w.cell? ⟨y, 4, none⟩ = some (.int .i64 (A'.steps : Int)) := by
  obtain ⟨F', gs, cz, gl, ads, caps, hr, hh, hF, hG⟩ := h
  rw [cell_of_block hr.hd]; rfl
theorem range_call {W w0 w : World} {St : World → (Nat → Prop) → Prop} {G : Nat → Prop} {L : List (Nat × Obj)} (h : Held W St w0 w G L) (g : Nat) (o : Obj) (hm : (g, o) ∈ L) : w.heap[g]? = some o := h.at g o hm

set_option maxHeartbeats 4000000 in
set_option maxRecDepth 100000 in
theorem walk (W : World) (x0 x1 : Int) (s t : List Int) (z : Int) (a : Option Addr) (keep : List Int) (cap : Nat) (hx : In64 x0 ∧ In64 x1) (hst : IsSuper s ∧ IsSuper t) (hp : In64 z ∧ IntsAt W a keep ∧ (∀ z ∈ keep, In64 z) ∧ keep.length ≤ 9223372036854775807) :
    Calls Try.prog 6 #[.agg #[.int .i64 x0, .int .i64 x1], .agg (iv .i64 (s ++ t)), .agg #[.int .i64 z, .slice a keep.length cap]] W fun e W' => e = .returned (.bool true) ∧ Below W.heap.size W W' := by
  obtain ⟨⟨hs, -⟩, ⟨ht, -⟩⟩ := hst
  obtain ⟨hz, hk1, hk2, hk3⟩ := hp
  have HS := hide hs
  have HT := hide ht
  have HK1 := hide hk1
  have HK2 := hide hk2
  have HK3 := hide hk3
  have ss := list4 hs
  have st := list4 ht
  have es : (iv .i64 s).toList.toArray = iv .i64 s := rfl
  have et : (iv .i64 t).toList.toArray = iv .i64 t := rfl
  have O0 := hide ((((Own.start W).alloc (.cells #[.int .i64 x0, .int .i64 x1] 39)).alloc (.cells (iv .i64 (s ++ t)) 40)).alloc (.cells #[.int .i64 z, .slice a keep.length cap] 43))
  have g1 : (W.alloc (.cells #[.int .i64 x0, .int .i64 x1] 39)).heap.size = W.heap.size + 1 := by simp
  have g2 : ((W.alloc (.cells #[.int .i64 x0, .int .i64 x1] 39)).alloc (.cells (iv .i64 (s ++ t)) 40)).heap.size = W.heap.size + 1 + 1 := by simp
  rw [g1, g2] at O0
  have OKA : Hid ((Mm.new 64 fun _ _ => 0).ok 0) := ok_new (by decide) (by decide) (fun _ _ => ⟨by decide, by decide⟩)
  clear hs ht hk1 hk2 hk3 g1 g2
  go_enter Try.func6, Try.ntmps6
  go_wp2_with fail
  refine (shown_any _).mono ?_
  rintro e w1 ⟨rfl, hb⟩
  have O1 := hide ((unhide O0).call hb)
  clear hb O0
  go_wp2_with fail
  refine (new_any w1 64 (by decide) (by decide)).mono ?_
  intro e w2 hm
  obtain ⟨b, rfl, h2⟩ := held_made (unhide O1) (by simp; omega) hm
  have O2 := hide h2
  clear hm h2 O1
  go_wp2_with fail
  refine (rnew_any w2 64 (by decide) (by decide)).mono ?_
  intro e w3 hm
  obtain ⟨y, rfl, h3⟩ := held_made2 (unhide O2) hm
  have O3 := hide h3
  clear hm h3 O2
  generalize (Mm.new 64 fun _ _ => 0) = A at *
  have KR := hide (two_first ((unhide O3).at (W.heap.size + 1) (.cells (iv .i64 (s ++ t)) 40) (by simp)))
  go_wp2_with (refine wpList_load_mid rfl 23 _ rfl (W.heap.size + 1) 0 rfl _ _ (unhide KR) Try.underlying23 rfl ss ?_)
  refine ((unhide O3).st.writeL (ok_mono (unhide OKA) (by decide)) 0 0 s (unhide HS)).mono ?_
  rintro e w4 ⟨rfl, h1, h2⟩
  have O4 := hide ((unhide O3).call (St' := fun w G => Two W w G b y (A.writeZ 0 0 s) A) h1 h2)
  clear h1 h2 O3 KR
  have KR := hide (two_first ((unhide O4).at (W.heap.size + 1) (.cells (iv .i64 (s ++ t)) 40) (by simp)))
  go_wp2_with (refine wpList_load_mid rfl 23 _ rfl (W.heap.size + 1) 0 rfl _ _ (unhide KR) Try.underlying23 rfl ss ?_)
  refine ((unhide O4).st.writeR (ok_mono (unhide OKA) (by decide)) 0 0 s (unhide HS)).mono ?_
  rintro e w5 ⟨rfl, h1, h2⟩
  have O5 := hide ((unhide O4).call (St' := fun w G => Two W w G b y (A.writeZ 0 0 s) (A.writeZ 0 0 s)) h1 h2)
  have OK5 : Hid ((A.writeZ 0 0 s).ok 11) := ok_writeZ (unhide OKA) 0 0 s
  clear h1 h2 O4 KR OKA
  generalize A.writeZ 0 0 s = A5 at *
  generalize A.writeE 0 0 s = E5 at *
  have cz : w5.cell? ⟨W.heap.size + 1 + 1, 0, none⟩ = some (.int .i64 z) := by rw [cell_of_block ((unhide O5).at (W.heap.size + 1 + 1) (.cells #[.int .i64 z, .slice a keep.length cap] 43) (by simp))]; rfl
  go_wp2_with fail
  refine ((unhide O5).st.fuseL z).mono ?_
  rintro e w6 ⟨rfl, h1, h2⟩
  have O6 := hide ((unhide O5).call (St' := fun w G => Two W w G b y (A5.fused z) A5) h1 h2)
  clear h1 h2 O5 cz
  have cz : w6.cell? ⟨W.heap.size + 1 + 1, 0, none⟩ = some (.int .i64 z) := by rw [cell_of_block ((unhide O6).at (W.heap.size + 1 + 1) (.cells #[.int .i64 z, .slice a keep.length cap] 43) (by simp))]; rfl
  go_wp2_with fail
  refine ((unhide O6).st.fuseR z).mono ?_
  rintro e w7 ⟨rfl, h1, h2⟩
  have O7 := hide ((unhide O6).call (St' := fun w G => Two W w G b y (A5.fused z) (A5.fused z)) h1 h2)
  have OK7 : Hid ((A5.fused z).ok 11) := ok_fused (unhide OK5) z hz
  clear h1 h2 O6 cz OK5
  generalize A5.fused z = A7 at *
  have KR := hide (two_second (unhide HS) ((unhide O7).at (W.heap.size + 1) (.cells (iv .i64 (s ++ t)) 40) (by simp)))
  have cx0 : w7.cell? ⟨W.heap.size, 0, none⟩ = some (.int .i64 x0) := by rw [cell_of_block ((unhide O7).at W.heap.size (.cells #[.int .i64 x0, .int .i64 x1] 39) (by simp))]; rfl
  have cx1 : w7.cell? ⟨W.heap.size, 1, none⟩ = some (.int .i64 x1) := by rw [cell_of_block ((unhide O7).at W.heap.size (.cells #[.int .i64 x0, .int .i64 x1] 39) (by simp))]; rfl
  go_wp2_with (refine wpList_load_mid rfl 23 _ rfl (W.heap.size + 1) 4 rfl _ _ (unhide KR) Try.underlying23 rfl st ?_)
  refine ((unhide O7).st.writeL (ok_mono (unhide OK7) (by decide)) x0 x1 t (unhide HT)).mono ?_
  rintro e w8 ⟨rfl, h1, h2⟩
  have O8 := hide ((unhide O7).call (St' := fun w G => Two W w G b y (A7.writeZ x0 x1 t) A7) h1 h2)
  clear h1 h2 O7 KR cx0 cx1
  have KR := hide (two_second (unhide HS) ((unhide O8).at (W.heap.size + 1) (.cells (iv .i64 (s ++ t)) 40) (by simp)))
  have cx0 : w8.cell? ⟨W.heap.size, 0, none⟩ = some (.int .i64 x0) := by rw [cell_of_block ((unhide O8).at W.heap.size (.cells #[.int .i64 x0, .int .i64 x1] 39) (by simp))]; rfl
  have cx1 : w8.cell? ⟨W.heap.size, 1, none⟩ = some (.int .i64 x1) := by rw [cell_of_block ((unhide O8).at W.heap.size (.cells #[.int .i64 x0, .int .i64 x1] 39) (by simp))]; rfl
  go_wp2_with (refine wpList_load_mid rfl 23 _ rfl (W.heap.size + 1) 4 rfl _ _ (unhide KR) Try.underlying23 rfl st ?_)
  refine ((unhide O8).st.writeR (ok_mono (unhide OK7) (by decide)) x0 x1 t (unhide HT)).mono ?_
  rintro e w9 ⟨rfl, h1, h2⟩
  have O9 := hide ((unhide O8).call (St' := fun w G => Two W w G b y (A7.writeZ x0 x1 t) (A7.writeZ x0 x1 t)) h1 h2)
  have OK9 : Hid ((A7.writeZ x0 x1 t).ok 22) := ok_writeZ (unhide OK7) x0 x1 t
  clear h1 h2 O8 KR cx0 cx1 OK7
  generalize A7.writeZ x0 x1 t = A9 at *
  generalize A7.writeE x0 x1 t = E9 at *
  have cy := two_count (unhide O9).st
  have QS : Hid (∀ q, Calls Try.prog 23 #[.pointer (some ⟨b, 0, none⟩)] (w9.drewN q) fun e w' => e = .returned (.int .i64 (A9.steps : Int)) ∧ w' = w9.drewN q) := fun q => (two_drewN (unhide O9).st q).has.steps
  generalize hst : (A9.steps : Int) = stp at cy QS
  clear hst
  have HD : Hid (∀ q, Held W (fun w G => Two W w G b y A9 A9) w1 (w9.drewN q) (fun _ => False) _) := fun q => (unhide O9).keeps (Two.stay W b y A9 A9) ⟨rfl, rfl, rfl, Nat.le_refl _, fun _ _ _ => rfl⟩
  clear O9
  go_wp2_with fail
  go_quiet ((go_at_call 23; exact Calls.quiet_of_same (unhide QS _)))
  clear QS cy
  go_wp2_with fail
  have O9 := hide (unhide HD nq)
  clear HD
  generalize w9.drewN nq = v9 at *
  have T9 := hide (Two.stay W b y A9 A9)
  have nV := iv_new .i64 A9.findV 4 (findV_len A9) 23
  have zV : (iv .i64 A9.findV).size = 4 := by rw [iv_size, findV_len]
  have sV := info4 (findV_len A9)
  have EV : Hid (∀ w, (Op.equalIn 10000 23 (.agg (iv .i64 A9.findV)) (.agg (iv .i64 A9.findV))).run Try.prog w = .ok true w) := fun w => by rw [equal_super _ _ (findV_len A9) (findV_len A9)]; simp
  have F1 : Hid (∀ w G, Two W w G b y A9 A9 → Calls Try.prog 24 #[.pointer (some ⟨b, 0, none⟩)] w (TwoAfter W w G b y A9 A9 (.tuple #[.agg (iv .i64 A9.findV), .int .i64 A9.findAt, .int .i64 A9.findE]))) := fun w G h => h.findL (ok_mono (unhide OK9) (by decide))
  have F2 : Hid (∀ w G, Two W w G b y A9 A9 → Calls Try.prog 25 #[.pointer (some ⟨y, 0, none⟩)] w (TwoAfter W w G b y A9 A9 (.tuple #[.agg (iv .i64 A9.findV), .int .i64 A9.findAt, .int .i64 A9.findE]))) := fun w G h => h.findR (ok_mono (unhide OK9) (by decide))
  generalize iv .i64 A9.findV = V at *
  generalize A9.findAt = I at *
  generalize A9.findE = E at *
  refine (unhide F1 _ _ (unhide O9).st).mono ?_
  rintro e w10 ⟨rfl, h1, h2⟩
  have O10 := hide (((unhide O9).call (St' := fun w G => Two W w G b y A9 A9) h1 h2).alloc (unhide T9) (.cells V 23))
  clear h1 h2 O9 F1
  go_wp2_with fail
  refine (unhide F2 _ _ (unhide O10).st).mono ?_
  rintro e w11 ⟨rfl, h1, h2⟩
  have HNE := hide (((unhide O10).call (St' := fun w G => Two W w G b y A9 A9) h1 h2).lt (w10.heap.size, .cells V 23) (by simp))
  have O11 := hide (((unhide O10).call (St' := fun w G => Two W w G b y A9 A9) h1 h2).alloc (unhide T9) (.cells V 23))
  clear h1 h2 O10 F2
  have K16 := hide ((unhide O11).at w10.heap.size (.cells V 23) (by simp))
  have K19 := hide ((unhide O11).at w11.heap.size (.cells V 23) (by simp))
  have ck : (w11.alloc (.cells V 23)).cell? ⟨W.heap.size + 1 + 1, 1, none⟩ = some (.slice a keep.length cap) := by rw [cell_of_block ((unhide O11).at (W.heap.size + 1 + 1) (.cells #[.int .i64 z, .slice a keep.length cap] 43) (by simp))]; rfl
  go_wp2_with (first | (refine wpList_load_row rfl 23 (.tmp 16) rfl w10.heap.size rfl _ _ _ _ (unhide K16) Try.underlying23 rfl sV ?_) | (refine wpList_load_row rfl 23 (.tmp 19) rfl w11.heap.size rfl _ _ _ _ (unhide K19) Try.underlying23 rfl sV ?_) | (refine wpList_neqA (by rfl) 23 23 (.tmp 98) (.tmp 99) rfl V V rfl rfl super_guard _ (unhide EV) ?_))
  refine ((unhide O11).st.crashL (ok_mono (unhide OK9) (by decide)) a keep cap (unhide HK2) (unhide HK3) (unhide HK1)).mono ?_
  rintro e w12 ⟨rfl, h1, h2⟩
  have O12 := hide ((unhide O11).call (St' := fun w G => Two W w G b y (A9.crash keep) A9) h1 h2)
  clear h1 h2 O11 K16 K19 ck
  have ck : w12.cell? ⟨W.heap.size + 1 + 1, 1, none⟩ = some (.slice a keep.length cap) := by rw [cell_of_block ((unhide O12).at (W.heap.size + 1 + 1) (.cells #[.int .i64 z, .slice a keep.length cap] 43) (by simp))]; rfl
  go_wp2_with fail
  refine ((unhide O12).st.crashR (ok_mono (unhide OK9) (by decide)) a keep cap (unhide HK2) (unhide HK3) (unhide HK1)).mono ?_
  rintro e w13 ⟨rfl, h1, h2⟩
  have O13 := hide ((unhide O12).call (St' := fun w G => Two W w G b y (A9.crash keep) (A9.crash keep)) h1 h2)
  have OKC : Hid ((A9.crash keep).ok 1000) := ok_mono (ok_crash (unhide OK9) keep) (by decide)
  clear h1 h2 O12 ck OK9 T9 nV EV
  generalize A9.crash keep = C at *
  have T := hide (Two.stay W b y C C)
  have nU := iv_new .i64 C.findV 4 (findV_len C) 23
  have zU : (iv .i64 C.findV).size = 4 := by rw [iv_size, findV_len]
  have oU : (iv .i64 C.findV).all (·.oneCell') = true := iv_one _ _
  have sU := info4 (findV_len C)
  have EU : Hid (∀ w, (Op.equalIn 10000 23 (.agg (iv .i64 C.findV)) (.agg (iv .i64 C.findV))).run Try.prog w = .ok true w) := fun w => by rw [equal_super _ _ (findV_len C) (findV_len C)]; simp
  have F1 : Hid (∀ w G, Two W w G b y C C → Calls Try.prog 24 #[.pointer (some ⟨b, 0, none⟩)] w (TwoAfter W w G b y C C (.tuple #[.agg (iv .i64 C.findV), .int .i64 C.findAt, .int .i64 C.findE]))) := fun w G h => h.findL (unhide OKC)
  have F2 : Hid (∀ w G, Two W w G b y C C → Calls Try.prog 25 #[.pointer (some ⟨y, 0, none⟩)] w (TwoAfter W w G b y C C (.tuple #[.agg (iv .i64 C.findV), .int .i64 C.findAt, .int .i64 C.findE]))) := fun w G h => h.findR (unhide OKC)
  generalize iv .i64 C.findV = U at *
  generalize C.findAt = I2 at *
  generalize C.findE = E2 at *
  go_wp2_with fail
  refine (unhide F1 _ _ (unhide O13).st).mono ?_
  rintro e w14 ⟨rfl, h1, h2⟩
  have O14 := hide ((unhide O13).call (St' := fun w G => Two W w G b y C C) h1 h2)
  clear h1 h2 O13 F1
  have K16 := hide ((unhide O14).at w10.heap.size (.cells V 23) (by simp))
  have O15 := hide ((unhide O14).row (unhide T) w10.heap.size V 23 (0, 0) (by simp) U)
  go_wp2_with (refine wpList_store_row rfl 23 _ _ rfl w10.heap.size U rfl rfl _ _ (unhide K16) sU (by rw [zU, zV]) oU ?_)
  have hne : w11.heap.size ≠ w10.heap.size := fun h => by have := unhide HNE; rw [h] at this; exact Nat.lt_irrefl _ this
  have O16 := hide ((unhide O15).less (L' := [(w10.heap.size, .cells U 23), (w11.heap.size, .cells V 23)]) (unhide T) (by simp [hne]))
  clear O14 O15 K16
  generalize w14.setRow w10.heap.size U = v14 at *
  refine (unhide F2 _ _ (unhide O16).st).mono ?_
  rintro e w15 ⟨rfl, h1, h2⟩
  have O17 := hide ((unhide O16).call (St' := fun w G => Two W w G b y C C) h1 h2)
  clear h1 h2 O16 F2
  have K19 := hide ((unhide O17).at w11.heap.size (.cells V 23) (by simp))
  have O18 := hide ((unhide O17).row (unhide T) w11.heap.size V 23 (0, 0) (by simp) U)
  have K16 := hide ((unhide O18).at w10.heap.size (.cells U 23) (by simp [Ne.symm hne]))
  have K20 := hide ((unhide O18).at w11.heap.size (.cells U 23) (by simp))
  go_wp2_with (first | (refine wpList_store_row rfl 23 _ _ rfl w11.heap.size U rfl rfl _ _ (unhide K19) sU (by rw [zU, zV]) oU ?_) | (refine wpList_load_row rfl 23 (.tmp 16) rfl w10.heap.size rfl _ _ _ _ (unhide K16) Try.underlying23 rfl sU ?_) | (refine wpList_load_row rfl 23 (.tmp 19) rfl w11.heap.size rfl _ _ _ _ (unhide K20) Try.underlying23 rfl sU ?_) | (refine wpList_eqlA (by rfl) 23 23 (.tmp 131) (.tmp 132) rfl U U rfl rfl super_guard _ (unhide EU) ?_))
  go_ret
  exact ⟨rfl, held_below (unhide T) (unhide O18)⟩

set_option maxRecDepth 100000 in
theorem lifted (os : Os) (started : os.Started) (H : Type) (enc : TypeId × Value → H) :
    ReturnsInHanded {} Try.checked os 6 .any (Rows.superWritesSpec.pre6 enc Try.prog Try.f6 Rows.superWritesRow.domain false) (Rows.superWritesSpec.post enc Try.prog Try.f6 false true false false) := by
  refine law_frame (C := Try.checked) (ts := [39, 40, 43]) (tb := 4) (by kernel_rfl) started (by kernel_rfl) Try.func6 Try.params6 (by kernel_rfl) Try.underlying4 (by kernel_rfl) (by kernel_rfl) rfl ?_
    (ChangeSpec.witness6 (enc := enc) (C := Try.checked) false ⟨#[], #[.agg #[.int .i64 0, .int .i64 0], .agg (iv .i64 (List.replicate 8 0)), .agg #[.int .i64 0, .slice none 0 0]], []⟩ 8 (by kernel_rfl) (by kernel_rfl) (by kernel_rfl) (by kernel_rfl)) ?_
  · intro ds hd
    match ds, hd with
    | [d0, d1, d2], _ => rfl
  · intro W base args ds p hval hA
    obtain ⟨v0, vs0, d0, ds0, p0, q0, hargs, rfl, rfl, h0, r0⟩ := trodAll_cons hA
    obtain ⟨v1, vs1, d1, ds1, p1, q1, rfl, rfl, rfl, h1, r1⟩ := trodAll_cons r0
    obtain ⟨v2, vs2, d2, ds2, p2, q2, rfl, rfl, rfl, h2, r2⟩ := trodAll_cons r1
    obtain ⟨rfl, rfl, rfl⟩ := trodAll_nil r2
    obtain rfl : args = #[v0, v1, v2] := by cases args; simp_all
    obtain ⟨x0, x1, rfl, hx⟩ := open_pair (hval 0 39 v0 rfl rfl) h0
    obtain ⟨s, t, rfl, hst⟩ := open_two (hval 1 40 v1 rfl rfl) h1
    obtain ⟨z, a, keep, cap, rfl, hp⟩ := open_power (hval 2 43 v2 rfl rfl) h2
    exact walk W x0 x1 s t z a keep cap hx hst hp

theorem over : Rows.superWritesRow.holds Try.pinned (OpenSpec.ofChange Rows.superWritesSpec) :=
  OpenClaim.holds_of_wide 6 Try.f6 rfl rfl rfl rfl rfl rfl rfl ⟨rfl, rfl, rfl, rfl, rfl⟩ rfl rfl rfl rfl rfl (by kernel_rfl) Try.func6 (by kernel_rfl)
    (of_decide_eq_true (by kernel_rfl)) (by unfold Func.isWrapper; first | (rw [if_pos (by decide +kernel)]; kernel_rfl) | (rw [if_neg (by decide +kernel)]; exact ⟨rfl, rfl⟩))
    (fun os started H enc _ => lifted os started H enc)

end Go.Proofs.Ytmmgacpipcgkdaa.superWrites
namespace Go.Proofs.Ytmmgacpipcgkdaa
theorem superWrites_holds : Rows.SuperWritesSaid := superWrites.over
end Go.Proofs.Ytmmgacpipcgkdaa
