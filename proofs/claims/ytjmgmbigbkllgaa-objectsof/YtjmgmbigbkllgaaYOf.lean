
/-
  The document's Of: a store of what was committed, or an error.
-/
import Derived.Test.YtjmgmbigbkllgaaYSt
import Derived.Test.YtjmgmbigbkllgaaOOf
namespace Go.Proofs.Ytjmgmbigbkllgaa
open Go.ChangeShapes Go.WideShapes Go.ChangeAt Go.RowKit Go.Joins
set_option maxRecDepth 100000
set_option linter.unusedVariables false
set_option linter.unusedSimpArgs false

/-- What the document takes: the lines of the table first, then the Dir's. -/
def yL (t : Nat → En) (d : Nat → Int) : List Int := linesL t ++ dirTo d 8
theorem yL_perm (t : Nat → En) (d : Nat → Int) : (yL t d).Perm (claimL t d) := List.perm_append_comm
theorem yL_len (t : Nat → En) (d : Nat → Int) : (yL t d).length ≤ 57 ∧ 0 < (yL t d).length := by
  have h1 : (linesL t).length ≤ 49 := linesTo_len t 49
  have h2 : (dirTo d 8).length = 8 := by unfold dirTo; simp
  unfold yL; rw [List.length_append, h2]; omega
theorem takesB_all (l : List Int) (F : Fr) (j : Nat) (hj : j < l.length) : l.take (j + 1) = l.take j ++ [l.getD j 0] := by
  have e : l.getD j 0 = l[j] := by rw [List.getD_eq_getElem?_getD, List.getElem?_eq_getElem hj]; rfl
  rw [List.take_succ_eq_append_getElem hj, e]
def YMade (w : World) (z : Nat) (S : Sto) (e : Ending) (w' : World) : Prop :=
  ∃ y f g, e = .returned (.tuple #[.pointer (some ⟨y, 0, none⟩), .int .i64 0]) ∧ YRep z f S (fun _ => ze) w' y ∧ RFRep w' f g S.F ∧ Keeps (fun _ => False) w w' ∧ w.heap.size ≤ y ∧ w.heap.size ≤ f ∧ w.heap.size ≤ g ∧ y ≠ f ∧ y ≠ g
def YOfPost (w : World) (z : Nat) (F : Fr) (t : Nat → En) (d : Nat → Int) (e : Ending) (w' : World) : Prop :=
  if ofB F t d = true then YMade w z (ofS F t d) e w' else e = .returned (.tuple #[.pointer none, .int .i64 21]) ∧ Keeps (fun _ => False) w w'
theorem s147_t49 (t : Nat → En) : (Try.prog.info? 24).map (·.size) = some (tabV t).size := by rw [tabV_size]; kernel_rfl
theorem s8_d8 (d : Nat → Int) : (Try.prog.info? 25).map (·.size) = some (dirV d).size := by rw [dirV_size]; kernel_rfl
theorem wpList_build5 {ops : Array Oper} {rest : List Oper} {o : Oper} {a : Act} {w : World} {Q : Exit → Act → World → Prop} (hg : o.guard = none) (t : TypeId) (x0 x1 x2 x3 x4 : Operand) (ho : o.op = .build t #[(0, x0), (1, x1), (2, x2), (3, x3), (4, x4)]) (u0 u1 u2 u3 u4 : Value) (h0 : a.eval x0 = u0) (h1 : a.eval x1 = u1) (h2 : a.eval x2 = u2) (h3 : a.eval x3 = u3) (h4 : a.eval x4 = u4) (cs : Array Value)
    (hb : Try.prog.built t [(0, u0), (1, u1), (2, u2), (3, u3), (4, u4)] = some cs) (h : wpList Try.prog ops Q rest (a.put o.dst (.agg cs)) w) : wpList Try.prog ops Q (o :: rest) a w := by
  subst h0 h1 h2 h3 h4
  exact wpList_build hg t #[(0, x0), (1, x1), (2, x2), (3, x3), (4, x4)] ho (by simp [hb]) (by simpa [hb] using h)

theorem yof_bad (w : World) (z n cs : Nat) (p : Option Addr) (hz : w.cell? ⟨z, 0, none⟩ = some (.slice p n cs)) (q : Int) (t : Nat → En) (d : Nat → Int) (hq : q < 0 ∨ (n : Int) < q ∨ 1024 < (n : Int)) :
    Calls Try.prog 12 #[.pointer (some ⟨z, 0, none⟩), .int .i64 q, .agg (tabV t), .agg (dirV d)] w fun e w' => e = .returned (.tuple #[.pointer none, .int .i64 1]) ∧ Keeps (fun _ => False) w w' := by
  have cz := (((Keeps.refl (fun _ => False) w).alloc (.cells (tabV t) 24)).alloc (.cells (dirV d) 25)).cellOf hz id
  have CN := hide (fun (w' : World) => rfnew_bad w' q (n : Int) hq)
  have hk := hide (((Keeps.refl (fun _ => False) w).alloc (.cells (tabV t) 24)).alloc (.cells (dirV d) 25))
  clear hq hz
  generalize tabV t = TV at *
  generalize dirV d = DV at *
  go_enter Try.func12, Try.ntmps12
  go_upto_region 1 with fail
  generalize (w.alloc (.cells TV 24)).alloc (.cells DV 25) = w1 at *
  go_wp2_with fail
  refine (unhide CN _).mono ?_
  rintro e w1 ⟨rfl, hw1⟩
  subst hw1
  go_wp2_with fail
  go_ret2
  exact ⟨rfl, unhide hk⟩

set_option maxHeartbeats 8000000 in
theorem yof_any (w : World) (z n cs : Nat) (p : Option Addr) (hz : w.cell? ⟨z, 0, none⟩ = some (.slice p n cs)) (lo : Nat) (t : Nat → En) (d : Nat → Int) (h1 : lo ≤ n) (h2 : n ≤ 1024) (hin : ∀ x ∈ yL t d, FIn64 x) :
    Calls Try.prog 12 #[.pointer (some ⟨z, 0, none⟩), .int .i64 (lo : Int), .agg (tabV t), .agg (dirV d)] w (YOfPost w z (Fr.new lo n) t d) := by
  have hka : Keeps (fun _ => False) w ((w.alloc (.cells (tabV t) 24)).alloc (.cells (dirV d) 25)) := ((Keeps.refl (fun _ => False) w).alloc _).alloc _
  have cz := hka.cellOf hz id
  have KA := hide hka
  obtain ⟨b6', b7'⟩ := heap2 w (.cells (tabV t) 24) (.cells (dirV d) 25)
  have B6 := hide b6'
  have B7 := hide b7'
  have CN := hide (fun (w' : World) => rfnew_any w' lo n h1 h2)
  have CL := hide (fun (w' : World) => rlines_any t w')
  have BY := hide (fun f => built_y z f (Fr.new lo n) t d)
  have S1 := hide (fun f => y_one z f ⟨Fr.new lo n, t, t, d, fun _ => ze, false⟩ fun _ => ze)
  have s147 := s147_t49 t
  have s8 := s8_d8 d
  have FOK := hide (new_ok h1 h2)
  have HIN := hide hin
  have HP := hide (takes_perm (yL_perm t d) (Fr.new lo n))
  have DC : Hid (∀ (w' : World) (g : Nat), w'.heap[g]? = some (.cells (dirV d) 25 (0, 0)) → LiesI w' (some ⟨g, 0, none⟩) (dirTo d 8)) := fun w' g h => Or.inr ⟨g, 0, rfl, fun i hi => by
    have hi8 : i < 8 := by unfold dirTo at hi; simpa using hi
    rw [cell_of_block h, Nat.zero_add]
    have := dirV_get d i hi8
    rw [List.getD_eq_getElem?_getD, Array.getElem?_toList] at this
    have hs : i < (dirV d).size := by rw [dirV_size]; exact hi8
    rw [Array.getElem?_eq_getElem hs] at this ⊢
    have e : (dirV d)[i] = .int .i64 (d i) := by simpa using this
    rw [e, List.getD_eq_getElem?_getD]
    unfold dirTo
    simp [hi8]⟩
  have hl8 : (dirTo d 8).length = 8 := by unfold dirTo; simp
  have hll : (linesL t).length ≤ 49 := linesTo_len t 49
  obtain ⟨TV, hTV⟩ : ∃ TV, TV = tabV t := ⟨_, rfl⟩
  obtain ⟨DV, hDV⟩ : ∃ DV, DV = dirV d := ⟨_, rfl⟩
  rw [← hTV, ← hDV] at cz KA B6 B7
  rw [← hTV] at CL s147
  rw [← hDV] at s8 DC
  rw [← hTV, ← hDV]
  have BY2 := hide (fun f => by have := unhide BY f; rw [← hTV, ← hDV] at this; exact this)
  clear hTV hDV hka hz h1 h2 b6' b7' hin BY
  go_enter Try.func12, Try.ntmps12
  go_upto_region 1 with fail
  obtain ⟨g6, hg6⟩ : ∃ g6, g6 = w.heap.size := ⟨_, rfl⟩
  obtain ⟨g7, hg7⟩ : ∃ g7, g7 = g6 + 1 := ⟨_, rfl⟩
  rw [← hg6] at B6 B7
  rw [← hg7] at B7
  simp only [← hg6, ← hg7]
  have HG6 := hide hg6
  clear hg6
  have hg67 : g6 < g7 := by omega
  clear hg7
  generalize (w.alloc (.cells TV 24)).alloc (.cells DV 25) = w1 at *
  go_wp2_with fail
  refine (unhide CN _).mono ?_
  rintro e w2 ⟨f, g, rfl, hf, hk, n1, n2, n3⟩
  have b6 := (hk.block g6 (lt_of_heapO (unhide B6)) id).trans (unhide B6)
  have b7 := (hk.block g7 (lt_of_heapO (unhide B7)) id).trans (unhide B7)
  have KB := hide ((unhide KA).trans' hk)
  have hlt7 := lt_of_heapO (unhide B7)
  have hf7 : g7 < f := by omega
  have hgg7 : g7 < g := by omega
  have HF := hide hf
  have C6 := hide b6
  have C7 := hide b7
  clear KA B6 B7 CN cz hk hf b6 b7 n1 n2 n3 hlt7
  go_upto_region 4 with fail
  refine wp_region_noPanic ?_
  refine wp_region_held_drew (S := fun w' => Keeps (fun _ => False) w2.drew w') (by kernel_rfl) (Keeps.refl _ _) (fun hHeld => ?_)
  have HF2 : Hid (RFRep w2.drew f g (Fr.new lo n)) := (unhide HF).drewN 1
  have D6 : Hid (w2.drew.heap[g6]? = some (.cells TV 24 (0, 0))) := unhide C6
  have D7 : Hid (w2.drew.heap[g7]? = some (.cells DV 25 (0, 0))) := unhide C7
  have KC : Hid (Keeps (fun _ => False) w w2.drew) := (unhide KB).drew
  have HGF : Hid (f < w2.drew.heap.size ∧ g < w2.drew.heap.size) := ⟨(unhide HF2).lt, (unhide HF2).bl.lt⟩
  clear HF C6 C7 KB
  generalize w2.drew = w3 at *
  have RT : Hid (∀ w', Keeps (fun _ => False) w3 w' → w'.rangeAt g6 0 TV.toList) := fun w' hk j v hv => by
    rw [cell_of_block ((hk.block g6 (lt_of_heapO (unhide D6)) id).trans (unhide D6)), Nat.zero_add, ← Array.getElem?_toList]; exact hv
  refine take_at 0 26 rfl rfl (by kernel_rfl) (by kernel_rfl) (by kernel_rfl) (yieldsIf_load_mid (by rfl) 24 _ rfl g6 0 rfl TV.toList _ (fun w' h => unhide RT w' h) Try.underlying24 rfl (by rw [Array.length_toList]; exact s147)) hHeld ?_
  simp only [Act.put, List.setIfInBounds_toArray, List.set_cons_zero, List.set_cons_succ]
  refine take_at 2 28 (v := ?_) rfl rfl (by kernel_rfl) (by kernel_rfl) (by kernel_rfl) (Or.inl ⟨by rfl, ?_⟩) hHeld ?_
  rotate_left
  · intro w hSw; go_simp; with_reducible rfl
  simp only [Act.put, List.setIfInBounds_toArray, List.set_cons_zero, List.set_cons_succ]
  refine wpAnyH_ready (rs := [1]) (by kernel_rfl) (by simp) ?_
  refine AllReadyH.cons rfl (fun K hK => ?_) AllReadyH.nil
  go_simp
  refine (unhide CL _).mono ?_
  rintro e w4 ⟨v, rfl, hk, hr⟩
  go_wp2_with fail
  have HV := hide hHeld
  clear hHeld
  refine hK.out _ _ ((unhide HV).trans' hk) (fun hNew => ?_)
  clear hK K
  have HR := hide hr
  have HK4 := hide hk
  have hHeld := hNew
  clear hNew hr hk
  refine wpAnyH_ready (rs := [3]) (by kernel_rfl) (by simp) ?_
  refine AllReadyH.cons rfl (fun K hK => ?_) AllReadyH.nil
  refine (if_pos (by rfl)).mpr ?_
  refine wp_append_ints (.tmp 27) (.tmp 28) rfl w3.heap.size v (linesL t) (dirTo d 8) rfl (unhide HR) (some ⟨g7, 0, none⟩) 8 rfl (fun h => by cases h) (unhide DC _ _ (((unhide HK4).block g7 (lt_of_heapO (unhide D7)) id).trans (unhide D7))) (by omega) (unhide HK4).size ?_
  intro v5 w5 hr5 hg5
  have hkv := keeps_app (unhide HK4) (unhide HR) hg5
  refine hK.out _ _ ((unhide HV).trans' hkv) (fun hNew => ?_)
  have HV5 := hide hNew
  obtain ⟨B, hB⟩ : ∃ B, B = w3.heap.size := ⟨_, rfl⟩
  rw [← hB] at hr5
  have hbase : w3.heap.size ≤ B := by omega
  clear hHeld hK K hkv hB hg5 HR HK4 HV CL
  have hHeld := hNew
  clear hNew
  refine take_at 4 12 (v := ?_) rfl rfl (by kernel_rfl) (by kernel_rfl) (by kernel_rfl) (Or.inl ⟨by rfl, ?_⟩) hHeld ?_
  rotate_left
  · intro w hSw; go_simp; with_reducible rfl
  simp only [Act.put, List.setIfInBounds_toArray, List.set_cons_zero, List.set_cons_succ]
  clear hHeld
  refine wpAnyH_done (by kernel_rfl) ?_ _
  refine NoPanic.normal ?_
  have HR5 : Hid (RowX B v5 (yL t d) w5) := hr5
  have HF5 : Hid (RFRep w5 f g (Fr.new lo n)) := (unhide HF2).keeps (unhide HV5) id id
  have E6 : Hid (w5.heap[g6]? = some (.cells TV 24 (0, 0))) := ((unhide HV5).block g6 (lt_of_heapO (unhide D6)) id).trans (unhide D6)
  have E7 : Hid (w5.heap[g7]? = some (.cells DV 25 (0, 0))) := ((unhide HV5).block g7 (lt_of_heapO (unhide D7)) id).trans (unhide D7)
  have K5 := hide ((unhide KC).trans' (unhide HV5))
  obtain ⟨hfB, hgB⟩ := unhide HGF
  obtain ⟨l57, l0⟩ := yL_len t d
  obtain ⟨l, hl⟩ : ∃ l, l = yL t d := ⟨_, rfl⟩
  rw [← hl] at HR5 HIN HP l57 l0
  have HL := hide hl
  clear hr5 HF2 D6 D7 KC HGF HV5 RT DC hl
  obtain ⟨x, cap, rfl, hxB, hcap, hxc⟩ := (unhide HR5).cell (by intro e; rw [e] at l0; simp at l0)
  have HXC := hide hxc
  have hxg : x ≠ g := by omega
  clear hxc
  go_wp2_with fail
  go_loopw [13] (fun q wr => ∃ j : Nat, j ≤ l.length ∧ q = .int .i64 j ∧ (Fr.new lo n).takesB (l.take j) = true ∧ RFRep wr f g ((Fr.new lo n).takeL (l.take j)) ∧ Keeps (· = g) w5 wr) (fun q _ => l.length - (intOf q).toNat)
  case atStart => exact ⟨0, by omega, rfl, by rw [List.take_zero]; rfl, by rw [List.take_zero]; exact unhide HF5, Keeps.refl _ _⟩
  case round =>
    clear HF5
    obtain ⟨j, hj, rfl, hb, hh, hk⟩ := hrel
    have HH := hide hh
    have HB := hide hb
    have HK := hide hk
    clear hh hb hk
    by_cases hlt : j < l.length
    · have hjl : (j : Int) < (l.length : Int) := by omega
      have cx := (unhide HK).cellOf (unhide HXC j hlt) hxg
      have hfi : FIn64 (l.getD j 0) := unhide HIN _ (by rw [List.getD_eq_getElem?_getD, List.getElem?_eq_getElem hlt]; exact List.getElem_mem hlt)
      have CT := hide (rftake_any (unhide HH) (takeL_ok (l.take j) (unhide FOK)) (l.getD j 0) hfi)
      have EA : Hid (((Fr.new lo n).takeL (l.take j)).turnA (l.getD j 0) 0 1 = (Fr.new lo n).takeL (l.take (j + 1))) := by show _ = _; rw [takesB_all l (Fr.new lo n) j hlt, takeL_snoc]
      have EB : Hid ((Fr.new lo n).takesB (l.take (j + 1)) = decide (((Fr.new lo n).takeL (l.take j)).turnE (l.getD j 0) 0 = 0)) := by show _ = _; rw [takesB_all l (Fr.new lo n) j hlt, takesB_snoc, unhide HB, Bool.true_and]
      rw [unhide EA] at CT
      generalize ((Fr.new lo n).takeL (l.take j)).turnE (l.getD j 0) 0 = E at *
      generalize l.getD j 0 = zj at *
      clear hfi EA
      by_cases hE : E = 0
      · subst hE
        have HB2 : Hid ((Fr.new lo n).takesB (l.take (j + 1)) = true) := by show _ = _; rw [unhide EB]; rfl
        clear EB HB
        go_wp2_with fail
        refine (unhide CT).mono ?_
        rintro e w7 ⟨rfl, h1, h2⟩
        have H1 := hide h1
        have H2 := hide ((unhide HK).trans' h2)
        clear h1 h2 CT HH HK cx
        go_wp2_with fail
        go_roundw
        case rel => exact ⟨j + 1, by omega, by go_num, unhide HB2, unhide H1, unhide H2⟩
        case measure => simp [intOf]; omega
      · have hE1 : (E != 0) = true := by simpa using hE
        have HF : Hid (ofB (Fr.new lo n) t d = false) := by
          have h1 : (Fr.new lo n).takesB (l.take (j + 1)) = false := by rw [unhide EB]; simpa using hE
          have h2 := takesB_part (l.take (j + 1)) (l.drop (j + 1)) _ h1
          rw [List.take_append_drop] at h2
          show (Fr.new lo n).takesB (claimL t d) = false
          rw [← (unhide HP).1]; exact h2
        clear hE EB
        go_wp2_with fail
        refine (unhide CT).mono ?_
        rintro e w7 ⟨rfl, h1, h2⟩
        have H2 := hide ((unhide HK).trans' h2)
        clear h1 h2 CT HH HK cx
        go_wp2_with fail
        go_ret2
        unfold YOfPost
        rw [if_neg (by rw [unhide HF]; decide)]
        exact ⟨rfl, (unhide K5).trans (fun k e => Or.inr (by have := (unhide HG6); omega)) (unhide H2)⟩
    · have ej : j = l.length := by omega
      have hge : ¬ ((j : Int) < (l.length : Int)) := by omega
      have et : l.take j = l := by rw [ej, List.take_length]
      rw [et] at HB HH
      have HT : Hid (ofB (Fr.new lo n) t d = true) := by
        show (Fr.new lo n).takesB (claimL t d) = true
        rw [← (unhide HP).1]; exact unhide HB
      have EF : Hid ((Fr.new lo n).takeL l = (ofS (Fr.new lo n) t d).F) := (unhide HP).2 (unhide HB)
      have BYf := hide (unhide BY2 f)
      have S1f := hide (unhide S1 f)
      have b6 : wr.heap[g6]? = some (.cells TV 24 (0, 0)) := ((unhide HK).block g6 (lt_of_heapO (unhide E6)) (by omega)).trans (unhide E6)
      have b7 : wr.heap[g7]? = some (.cells DV 25 (0, 0)) := ((unhide HK).block g7 (lt_of_heapO (unhide E7)) (by omega)).trans (unhide E7)
      have RT : Hid (wr.rangeAt g6 0 TV.toList) := fun j v hv => by rw [cell_of_block b6, Nat.zero_add, ← Array.getElem?_toList]; exact hv
      have RD : Hid (wr.rangeAt g7 0 DV.toList) := fun j v hv => by rw [cell_of_block b7, Nat.zero_add, ← Array.getElem?_toList]; exact hv
      have KE := hide ((unhide K5).trans (F := fun _ => False) (fun k e => Or.inr (by have := (unhide HG6); omega)) (unhide HK))
      have HSZ : Hid (f < wr.heap.size ∧ g < wr.heap.size ∧ w.heap.size ≤ f ∧ w.heap.size ≤ g) := ⟨(unhide HH).lt, (unhide HH).bl.lt, by have := unhide HG6; omega, by have := unhide HG6; omega⟩
      generalize hYV : (fun f => tab 452 (yF z f ⟨Fr.new lo n, t, t, d, fun _ => ze, false⟩ fun _ => ze)) = YV at *
      clear b6 b7 HB HK E6 E7 BY2 S1 HIN HP HXC HR5 et ej hlt
      go_upto_region 10 with fail
      go_wp2_with (first | (with_reducible refine wpList_load_mid (by with_unfolding_all rfl) 24 _ (by with_unfolding_all rfl) g6 0 (by with_unfolding_all rfl) TV.toList _ (unhide RT) Try.underlying24 (by with_unfolding_all rfl) (by rw [Array.length_toList]; exact s147) ?_) | (with_reducible refine wpList_load_mid (by with_unfolding_all rfl) 25 _ (by with_unfolding_all rfl) g7 0 (by with_unfolding_all rfl) DV.toList _ (unhide RD) Try.underlying25 (by with_unfolding_all rfl) (by rw [Array.length_toList]; exact s8) ?_) | (with_reducible refine wpList_build5 (by with_unfolding_all rfl) 102 _ _ _ _ _ (by with_unfolding_all rfl) (.pointer (some ⟨z, 0, none⟩)) (.pointer (some ⟨f, 0, none⟩)) (.agg TV) (.agg TV) (.agg DV) (by with_unfolding_all rfl) (by with_unfolding_all rfl) (by with_unfolding_all rfl) (by with_unfolding_all rfl) (by with_unfolding_all rfl) _ (unhide BYf) ?_; generalize hSV : tab 452 (yF z f ⟨Fr.new lo n, t, t, d, fun _ => ze, false⟩ fun _ => ze) = SV at *))
      go_ret2
      unfold YOfPost
      rw [if_pos (unhide HT)]
      obtain ⟨s1, s2, s3, s4⟩ := unhide HSZ
      refine ⟨wr.heap.size, f, g, rfl, ?_, ?_, (unhide KE).alloc _, (unhide KE).size, s3, s4, by omega, by omega⟩
      · refine Blk.of_tab ?_
        show _ = some (Obj.cells (tab 452 (yF z f ⟨Fr.new lo n, t, t, d, fun _ => ze, false⟩ fun _ => ze)) _ _)
        rw [hSV]
        exact heap_new _ _
      · rw [← unhide EF]
        exact (unhide HH).keeps ((Keeps.refl (fun _ => False) _).alloc _) id id

end Go.Proofs.Ytjmgmbigbkllgaa
