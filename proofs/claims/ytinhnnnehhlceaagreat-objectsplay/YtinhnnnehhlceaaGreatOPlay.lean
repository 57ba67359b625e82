
/-
  For every two numbers, every row of calls and every fuse, ObjectsPlay returns true and leaves its arguments as they were: a store does any calls as the document says, and the memory is the same, clones too. No condition.
-/
import Derived.Test.YtinhnnnehhlceaaGreatPkCp
import Derived.Test.YtinhnnnehhlceaaGreatODoes
import Derived.Test.YtinhnnnehhlceaaGreatPkYs
import Derived.Test.YtinhnnnehhlceaaGreatLaw
import Derived.Test.YtinhnnnehhlceaaGreatFlat
import Derived.Test.YtinhnnnehhlceaaGreatRows
import Derived.Deep.Cut
import Derived.Deep.CutRange
namespace Go.Proofs.YtinhnnnehhlceaaGreat.objectsPlay
open Go.ChangeShapes Go.WideShapes Go.ChangeAt Go.RowKit Go.Joins
set_option linter.unusedVariables false
set_option linter.unusedSimpArgs false
set_option maxRecDepth 100000

def IsPairO (zs : List Int) : Prop := ∃ x0 x1, zs = [x0, x1] ∧ In64 x0 ∧ In64 x1
theorem open_pairO {H : Type} {enc : TypeId × Value → H} {W : World} {r : Reach} {b0 base : Nat} {sp : Nat → Bool} {hd : Bool} {v : Value} {d : DataW H} {p : List MemPlace}
    (hv : Value.okWide Tryz.prog W r b0 22 v) (h : DataW.Trod enc Tryz.prog W base sp hd 22 v d p) : ∃ zs : List Int, v = .agg (iv .i64 zs) ∧ IsPairO zs := by
  obtain ⟨cs, rfl, hfit⟩ := flat_open 3 (ks := List.replicate 2 (some .i64)) (by kernel_rfl) (Or.inr ⟨_, _, Tryz.underlying22⟩) hv h
  obtain ⟨zs, hl, hz, hw⟩ := allFit_ints .i64 2 cs.toList hfit
  match zs, hl, hz, hw with
  | [x0, x1], _, hz, hw => exact ⟨[x0, x1], by rw [iv, ← hz], x0, x1, rfl, in64_wf (hw x0 (by simp)), in64_wf (hw x1 (by simp))⟩

theorem pp_made {W w w' : World} {m b z y f g : Nat} {S S' : Sto} {K : Nat → En} {A A' : Mm} {G : Nat → Prop} (h : SHas W m b (fun A w G => Two W w G m z A A') S A w G) (hk : Keeps (fun _ => False) w w') (hy : YRep z f S' K w' y) (hf : RFRep w' f g S'.F)
    (n1 : w.heap.size ≤ y) (n2 : w.heap.size ≤ f) (n3 : w.heap.size ≤ g) (yf : y ≠ f) (yg : y ≠ g) : PP W ⟨m, b, z, y, f, g⟩ S A S' K A' w' G := by
  have T := SHas.stay (Two.memL W m z A') b S A
  obtain ⟨u, h1, h2, h3⟩ := stay_grows T h hk (w'.heap.size - w.heap.size) (by have := hk.size; omega)
  have h4 := T.bl _ _ _ h1 h2
  have l1 := Blk.lt hy
  have l2 := hf.lt
  have l3 := hf.bl.lt
  have hG : ∀ k, G k → k < w.heap.size := T.lt _ _ h
  have hsz := (T.sz _ _ h).size
  refine ⟨hy, hf, T.ls _ _ _ h4 (fun k hk' => ?_), fun hk' => ?_, fun hk' => ?_, fun hk' => ?_, yf, yg, Nat.le_trans hsz n1, Nat.le_trans hsz n2, Nat.le_trans hsz n3⟩
  · rcases hk' with hk' | rfl | rfl | rfl
    · exact Or.inl hk'
    · exact Or.inr ⟨n1, by omega⟩
    · exact Or.inr ⟨n2, by omega⟩
    · exact Or.inr ⟨n3, by omega⟩
  · have := hG y hk'; omega
  · have := hG f hk'; omega
  · have := hG g hk'; omega
section
variable {W w : World} {P : Pl} {S S' : Sto} {K : Nat → En} {A A' : Mm} {G : Nat → Prop}
theorem fuseL (h : PP W P S A S' K A' w G) (q : Int) : Calls Tryz.prog 17 #[.pointer (some ⟨P.m, 0, none⟩), .int .i64 q] w (Done (PP W P S (A.fused q) S' K A') w G (.tuple #[])) := by
  refine (h.sh.st.fuseL q).mono fun e w' hd => ?_
  obtain ⟨he, h1, h2⟩ := hd
  refine h.left ⟨he, ⟨?_, h1, h.sh.nb, h.sh.new⟩, fun k hk => h2 k (Or.inl hk)⟩
  have := h.srep
  unfold SRep Blk at this ⊢
  rw [h2 P.b (Or.inr rfl)]; exact this
theorem fuseR (h : PP W P S A S' K A' w G) (q : Int) : Calls Tryz.prog 18 #[.pointer (some ⟨P.z, 0, none⟩), .int .i64 q] w (Done (PP W P S A S' K (A'.fused q)) w G (.tuple #[])) := by
  refine (h.sh.st.fuseR q).mono fun e w' hd => ?_
  obtain ⟨he, h1, h2⟩ := hd
  have h3 : Done (PSt W P.m P.b P.z S A (A'.fused q)) w (fun k => G k ∨ k = P.y ∨ k = P.f ∨ k = P.g) (.tuple #[]) e w' := by
    refine ⟨he, ⟨?_, h1, h.sh.nb, h.sh.new⟩, fun k hk => h2 k (Or.inl hk)⟩
    have := h.srep
    unfold SRep Blk at this ⊢
    rw [h2 P.b (Or.inr rfl)]; exact this
  exact YHas.under h h3
theorem loadL (h : PP W P S A S' K A' w G) (hn : A.n ≤ 1024) (l : Int) : Calls Tryz.prog 45 #[.pointer (some ⟨P.m, 0, none⟩), .int .i64 l] w (Done (PP W P S A S' K A') w G (.tuple #[.agg (lnV (A.hasZ l)), .int .i64 (A.loadE l)])) :=
  (h.sh.load (Two.memL W P.m P.z A') hn l).mono fun e w' hd => h.left hd
theorem loadR (h : PP W P S A S' K A' w G) (hok : A'.ok 1000) (l : Int) : Calls Tryz.prog 64 #[.pointer (some ⟨P.z, 0, none⟩), .int .i64 l] w (Done (PP W P S A S' K A') w G (.tuple #[.agg (lnV (A'.hasZ l)), .int .i64 (A'.loadE l)])) :=
  YHas.load (PSt.memR W P.m P.b P.z S A) h hok l
theorem count (h : PP W P S A S' K A' w G) : w.cell? ⟨P.z, 4, none⟩ = some (.int .i64 (A'.steps : Int)) := by
  obtain ⟨F', gs, cz, gl, ads, caps, hr, -⟩ := h.sh.st
  exact hr.c4
theorem len (h : PP W P S A S' K A' w G) : ∃ p cs, w.cell? ⟨P.z, 0, none⟩ = some (.slice p A'.n cs) := by
  obtain ⟨F', gs, cz, gl, ads, caps, hr, -⟩ := h.sh.st
  exact ⟨_, _, hr.c0⟩
theorem steps (h : PP W P S A S' K A' w G) : Calls Tryz.prog 37 #[.pointer (some ⟨P.m, 0, none⟩)] w fun e w' => e = .returned (.int .i64 (A.steps : Int)) ∧ w' = w := h.sh.st.has.steps
end
theorem getV_ob (S : Sto) (A : Mm) (x : Int) : ∃ k v f, S.getV A x = obV k v f := by
  unfold Sto.getV
  split
  · exact ⟨_, _, _, rfl⟩
  · exact ⟨_, _, _, rfl⟩
theorem tbl_lin (n : Nat) : ∀ i, i < 49 → FIn64 (tblF n i).l := fun i hi => by
  unfold tblF
  split
  · exact ⟨by show _ ≤ (20 : Int) + i; omega, by show (20 : Int) + i ≤ _; omega⟩
  · show FIn64 0; exact ⟨by decide, by decide⟩
theorem yL_tbl (n : Nat) : ∀ x ∈ yL (tblF n) dirF, FIn64 x := by
  intro x hx
  unfold yL at hx
  rcases List.mem_append.1 hx with hx | hx
  · obtain ⟨i, hi, _, rfl⟩ := (linesTo_mem _ _ _).1 hx
    exact tbl_lin n i hi
  · unfold dirTo at hx
    obtain ⟨i, hi, rfl⟩ := List.mem_map.1 hx
    have := List.mem_range.1 hi
    exact ⟨by show _ ≤ (10 : Int) + i; omega, by show (10 : Int) + i ≤ _; omega⟩
theorem fine_start (n N : Nat) (h1 : 64 ≤ N) (h2 : N ≤ 1024) (fu : Int) (hf : In64 fu) : Fine (sS n N) (fun _ => ze) ((sA N).fused fu) 0 N :=
  ⟨sS_ok n N (by omega) h2, ⟨fun q => (by cases q), fun _ => rfl⟩, fun i hi => tbl_lin n i hi, ok_fused (sA_ok N h1 h2) fu hf, rfl⟩

theorem line_guardP : Tryz.prog.eqGuardType Tryz.prog.depth 83 = false := by kernel_rfl
set_option maxHeartbeats 32000000 in
theorem walk (W : World) (xs : List Int) (a : Option Addr) (n cap : Nat) (o : Nat → OOp) (fu : Int) (hX : IsPairO xs) (hO : OOpsAt W a n cap o) (wf : (Lit.int .i64 fu).wf = true) :
    Calls Tryz.prog 6 #[.agg (iv .i64 xs), .slice a n cap, .int .i64 fu] W fun e W' => e = .returned (.bool true) ∧ Below W.heap.size W W' := by
  obtain ⟨x0, x1, rfl, hx0, hx1⟩ := hX
  show Calls Tryz.prog 6 #[.agg #[.int .i64 x0, .int .i64 x1], .slice a n cap, .int .i64 fu] W fun e W' => e = .returned (.bool true) ∧ Below W.heap.size W W'
  have HFU : Hid (In64 fu) := in64_wf wf
  have C64 := hide (okind_any x0 hx0 64 (by decide) (by decide))
  have C31 := hide (okind_any x1 hx1 31 (by decide) (by decide))
  have k64 := kindN_lt x0 64 (by decide)
  have k31 := kindN_lt x1 31 (by decide)
  obtain ⟨d64, h64⟩ : ∃ d, d = kindN x0 64 := ⟨_, rfl⟩
  obtain ⟨n31, h31⟩ : ∃ d, d = kindN x1 31 := ⟨_, rfl⟩
  rw [← h64] at C64 k64
  rw [← h31] at C31 k31
  clear h64 h31 hx0 hx1 wf
  obtain ⟨hn, hops⟩ := hO
  have HO := hide hops
  clear hops
  obtain ⟨N, hN⟩ : ∃ N, N = 64 + d64 := ⟨_, rfl⟩
  have HN1 : Hid (64 ≤ N) := by show _ ≤ _; omega
  have HN2 : Hid (N ≤ 1024) := by show _ ≤ _; omega
  have E64 : Hid ((64 : Int) + (d64 : Int) = (N : Int)) := by show _ = _; omega
  clear hN
  go_enter Tryz.func6, Tryz.ntmps6
  go_upto_region 1 with fail
  have KW : Hid (Keeps (fun _ => False) W (W.alloc (.cells #[.int .i64 x0, .int .i64 x1] 22))) := (Keeps.refl _ W).alloc _
  have B3 := hide (heap_new W (.cells #[.int .i64 x0, .int .i64 x1] 22))
  have HW3 : Hid (W.heap.size ≤ W.heap.size) := Nat.le_refl _
  obtain ⟨g3, hg3⟩ : ∃ g3, g3 = W.heap.size := ⟨_, rfl⟩
  rw [← hg3] at B3
  rw [← hg3]
  clear hg3 HW3
  generalize W.alloc (.cells #[.int .i64 x0, .int .i64 x1] 22) = w0 at *
  have CX : Hid (∀ w' : World, w'.heap[g3]? = some (.cells #[.int .i64 x0, .int .i64 x1] 22 (0, 0)) → w'.cell? ⟨g3, 0, none⟩ = some (.int .i64 x0) ∧ w'.cell? ⟨g3, 1, none⟩ = some (.int .i64 x1)) := fun w' h => by
    constructor <;> rw [cell_of_block h] <;> rfl
  go_wp2_with fail
  refine (oshown_any w0).mono ?_
  rintro e w1 ⟨rfl, hk0⟩
  have KW1 := hide ((unhide KW).trans' hk0)
  have C3 := hide ((hk0.block g3 (lt_of_heapO (unhide B3)) id).trans (unhide B3))
  clear hk0 KW B3
  obtain ⟨c30, c31⟩ := unhide CX _ (unhide C3)
  go_upto_region 3 with (go_at_call 48; refine (unhide C64 _).mono ?_; rintro e w1 ⟨rfl, rfl⟩)
  rw [unhide E64]
  clear c30 c31 C64
  go_wp2_with fail
  refine (new_any w1 N (unhide HN1) (unhide HN2)).mono ?_
  intro e w2 hm
  obtain ⟨m, rfl, h0, -⟩ := made_has W (unhide KW1) hm (fun k => k = g3) (fun k h => by rw [h]; exact lt_of_heapO (unhide C3))
  have H0 : Hid (Has W w2 (fun k => k = g3) m (sA N)) := h0
  obtain ⟨_, _, _, _, -, -, hkm, -⟩ := hm
  have D3 := hide ((hkm.block g3 (lt_of_heapO (unhide C3)) id).trans (unhide C3))
  clear h0 KW1 C3 hkm
  go_wp2_with fail
  refine (rnew_any w2 N (unhide HN1) (unhide HN2)).mono ?_
  rintro e w3 ⟨z, gs, cz, gl, F', ads, caps, rfl, hr, hk2, hF⟩
  have H2 : Hid (Two W w3 (fun k => k = g3) m z (sA N) (sA N)) := Two.made (unhide H0) hr hk2 hF
  have R3 := hide ((hk2.block g3 (lt_of_heapO (unhide D3)) id).trans (unhide D3))
  clear hr hk2 hF H0 D3
  obtain ⟨c30, c31⟩ := unhide CX _ (unhide R3)
  go_wp2_with fail
  refine (unhide C31 _).mono ?_
  rintro e w3 ⟨rfl, rfl⟩
  clear c30 c31
  go_wp2_with fail
  refine (table_any n31 (by omega) w3).mono ?_
  rintro e w4 ⟨rfl, hb⟩
  have H3 := hide ((Two.stay W m z (sA N) (sA N)).bl _ _ _ (unhide H2) (Keeps.of_below hb))
  have R4 := hide ((hb.block g3 (lt_of_heapO (unhide R3))).trans (unhide R3))
  clear hb H2 R3
  go_wp2_with fail
  refine (dir_any w4).mono ?_
  rintro e w5 ⟨rfl, hb⟩
  have H4 := hide ((Two.stay W m z (sA N) (sA N)).bl _ _ _ (unhide H3) (Keeps.of_below hb))
  have R5 := hide ((hb.block g3 (lt_of_heapO (unhide R4))).trans (unhide R4))
  clear hb H3 R4
  have CS : Hid (Calls Tryz.prog 51 #[.pointer (some ⟨m, 0, none⟩), .int .i64 10, .agg (tabV (tblF n31)), .agg (dirV dirF)] w5 (OfPost W w5 m (fun A w G => Two W w G m z A (sA N)) (Fr.new 10 N) (tblF n31) dirF (sA N) (fun k => k = g3))) := sof_any (Two.memL W m z (sA N)) (unhide H4) 10 (tblF n31) dirF (by have := unhide HN1; show 10 ≤ N; omega) (unhide HN2)
  have HOB : Hid (ofB (Fr.new 10 N) (tblF n31) dirF = true) := ofB_tbl n31 N (by omega) (unhide HN1)
  clear H4
  go_wp2_with fail
  refine (unhide CS).mono ?_
  intro e w6 hp
  unfold OfPost at hp
  rw [if_pos (unhide HOB)] at hp
  obtain ⟨b, rfl, h1, hs⟩ := hp
  have HS : Hid (SHas W m b (fun A w G => Two W w G m z A (sA N)) (sS n31 N) (sA N) w6 (fun k => k = g3)) := h1
  have R6 := hide ((hs g3 rfl).trans (unhide R5))
  clear h1 hs CS R5
  obtain ⟨c30, c31⟩ := unhide CX _ (unhide R6)
  go_wp2_with fail
  refine (unhide C31 _).mono ?_
  rintro e w6 ⟨rfl, rfl⟩
  clear c30 c31 C31 CX R6
  go_wp2_with fail
  refine (table_any n31 (by omega) w6).mono ?_
  rintro e w7 ⟨rfl, hb⟩
  have HS7 := hide ((SHas.stay (Two.memL W m z (sA N)) b (sS n31 N) (sA N)).bl _ _ _ (unhide HS) (Keeps.of_below hb))
  clear hb HS
  go_wp2_with fail
  refine (dir_any w7).mono ?_
  rintro e w8 ⟨rfl, hb⟩
  have HS8 := hide ((SHas.stay (Two.memL W m z (sA N)) b (sS n31 N) (sA N)).bl _ _ _ (unhide HS7) (Keeps.of_below hb))
  clear hb HS7
  have CY : Hid (Calls Tryz.prog 12 #[.pointer (some ⟨z, 0, none⟩), .int .i64 10, .agg (tabV (tblF n31)), .agg (dirV dirF)] w8 (YOfPost w8 z (Fr.new 10 N) (tblF n31) dirF)) := by
    obtain ⟨F1, gs1, cz1, gl1, ads1, caps1, hrr, -⟩ := (unhide HS8).st
    exact yof_any w8 z N cz1 _ hrr.c0 10 (tblF n31) dirF (by have := unhide HN1; omega) (unhide HN2) (yL_tbl n31)
  go_wp2_with fail
  refine (unhide CY).mono ?_
  intro e w9 hp
  unfold YOfPost at hp
  rw [if_pos (unhide HOB)] at hp
  obtain ⟨y, f, g, rfl, hy, hf, hk, q1, q2, q3, q4, q5⟩ := hp
  have HP0 : Hid (PP W ⟨m, b, z, y, f, g⟩ (sS n31 N) (sA N) (sS n31 N) (fun _ => ze) (sA N) w9 (fun _ => False)) := (PP.stay W _ _ _ _ _ _).ls _ _ _ (pp_made (S' := sS n31 N) (unhide HS8) hk hy hf q1 q2 q3 q4 q5) (fun _ h => h.elim)
  clear hy hf hk q1 q2 q3 q4 q5 CY HS8 HOB
  have CF1 := hide (fuseL (unhide HP0) fu)
  have CF2 := hide (fun (w' : World) (h : PP W ⟨m, b, z, y, f, g⟩ (sS n31 N) ((sA N).fused fu) (sS n31 N) (fun _ => ze) (sA N) w' (fun _ => False)) => fuseR h fu)
  go_wp2_with fail
  refine (unhide CF1).mono ?_
  rintro e w10 ⟨rfl, h1, -⟩
  have HP1 := hide h1
  clear h1 CF1 HP0
  go_wp2_with fail
  refine (unhide CF2 _ (unhide HP1)).mono ?_
  rintro e w11 ⟨rfl, h1, -⟩
  have HP2 := hide h1
  clear h1 CF2 HP1
  have FI0 := hide (fine_start n31 N (unhide HN1) (unhide HN2) fu (unhide HFU))
  have HP3 : Hid (PP W ⟨m, b, z, y, f, g⟩ (sS n31 N) ((sA N).fused fu) (sS n31 N) (fun _ => ze) ((sA N).fused fu) (w11.alloc (.cells #[] 3)) (fun k => (Value.slice (some ⟨w11.heap.size, 0, none⟩) 0 0).ownBlock = some k)) := (PP.stay W _ _ _ _ _ _).ls _ _ _ ((PP.stay W _ _ _ _ _ _).al _ _ (.cells #[] 3) (unhide HP2)) (fun k hk => Or.inr (by simp [Value.ownBlock] at hk; exact hk.symm))
  have HR0 : Hid (RowX W.heap.size (.slice (some ⟨w11.heap.size, 0, none⟩) 0 0) [] (w11.alloc (.cells #[] 3))) := World.ownsRow_lit (base := W.heap.size) (e := 3) (size := 1) w11 #[] 0 ((PP.stay W _ _ _ _ _ _).sz _ _ (unhide HP2)).size (by decide) rfl
  clear HP2
  generalize (sA N).fused fu = A0 at *
  generalize sS n31 N = S0 at *
  go_upto_region 14 with fail
  generalize w11.alloc (.cells #[] 3) = w12 at *
  generalize w11.heap.size = g17 at *
  go_wp2_with fail
  go_loopw [9, 13, 17, 18] (fun pm ps tk i wr => ∃ (k : Nat) (P : Pl) (S : Sto) (K : Nat → En) (A : Mm) (ts : List Int), k ≤ n ∧ k ≤ 80 ∧ pm = .pointer (some ⟨P.m, 0, none⟩) ∧ ps = .pointer (some ⟨P.b, 0, none⟩) ∧ i = .int .i64 k ∧ P.z = z ∧ P.y = y ∧ Fine S K A (8 * k) N ∧ ts.length ≤ k ∧ RowX W.heap.size tk ts wr ∧ PP W P S A S K A wr (fun j => tk.ownBlock = some j)) (fun _ _ _ i _ => n - (intOf i).toNat)
  case atStart => exact ⟨0, ⟨m, b, z, y, f, g⟩, S0, _, A0, [], by omega, by omega, rfl, rfl, rfl, rfl, rfl, unhide FI0, by simp, unhide HR0, unhide HP3⟩
  case round =>
    clear FI0 HR0 HP3
    obtain ⟨k, P, S, K, A, ts, hk, hk80, rfl, rfl, rfl, hPz, hPy, hfi, hts, hr, hp⟩ := hrel
    have HP := hide hp
    have HR := hide hr
    have FI := hide hfi
    clear hp hr hfi
    subst hPz hPy
    by_cases hlt : k < n ∧ k < 80
    · skip
      obtain ⟨hlt1, hlt2⟩ := hlt
      obtain ⟨x, off, rfl, hx⟩ : ∃ b off, a = some ⟨b, off, none⟩ ∧ ∀ i, i < n → OOpAt W b (off + i * 4) (o i) := by
        rcases unhide HO with h | h
        · omega
        · exact h
      have hxj := hx k (by omega)
      have R0 := hide (rangeAt_keeps hxj.1 ((PP.stay W P S A S K A).sz _ _ (unhide HP)) id)
      have hfit := hide hxj.2
      have hkn : (k : Int) < (n : Int) := by omega
      have hk80' : (k : Int) < 80 := by omega
      have s4 : (Tryz.prog.info? 108).map (·.size) = some (o k).cells.length := by show _ = some 4; kernel_rfl
      clear hx hxj
      obtain ⟨kd, id, wd, v, hop⟩ : ∃ kd id wd v, o k = ⟨kd, id, wd, v⟩ := ⟨_, _, _, _, rfl⟩
      rw [hop] at R0 hfit s4
      clear hop
      have R1 : Hid (wr.rangeAt x (off + k * 4) [.int .i64 kd, .int .i64 id, .int .i64 wd, .int .u64 v]) := unhide R0
      have s4' : (Tryz.prog.info? 108).map (·.size) = some [Value.int .i64 kd, .int .i64 id, .int .i64 wd, .int .u64 v].length := s4
      go_upto_region 18 with (with_reducible refine wpList_load_mid (by with_unfolding_all rfl) 108 _ (by with_unfolding_all rfl) x (off + k * 4) (by with_unfolding_all rfl) [.int .i64 kd, .int .i64 id, .int .i64 wd, .int .u64 v] _ (unhide R1) Tryz.underlying108 (by with_unfolding_all rfl) s4' ?_)
      clear R0 R1 s4 s4'
      have B19 := hide (heap_new wr (.cells #[.int .i64 kd, .int .i64 id, .int .i64 wd, .int .u64 v] 108))
      have HPa := hide ((PP.stay W P S A S K A).ls _ _ (fun j => j = wr.heap.size ∨ u17.ownBlock = some j) ((PP.stay W P S A S K A).al _ _ (.cells #[.int .i64 kd, .int .i64 id, .int .i64 wd, .int .u64 v] 108) (unhide HP)) (fun j hj => hj.symm))
      have HRa := hide ((unhide HR).same (w' := wr.alloc (.cells #[.int .i64 kd, .int .i64 id, .int .i64 wd, .int .u64 v] 108)) (fun j e => Below.heap_alloc _ _ _ ((unhide HR).lt j e).2))
      have HD : Hid (∀ j, j = wr.heap.size → u17.ownBlock ≠ some j) := fun j hj e => by have := ((unhide HR).lt j e).2; omega
      obtain ⟨g19, hg⟩ : ∃ g19, g19 = wr.heap.size := ⟨_, rfl⟩
      rw [← hg] at B19 HPa HD ⊢
      clear hg HP HR
      have HP := HPa
      have HR := HRa
      clear HPa HRa
      generalize wr.alloc (.cells #[.int .i64 kd, .int .i64 id, .int .i64 wd, .int .u64 v] 108) = w6 at *
      have C12 := hide (okind_any kd (unhide hfit).1 12 (by decide) (by decide))
      have k12 := kindN_lt kd 12 (by decide)
      obtain ⟨kk, hkk⟩ : ∃ kk, kk = kindN kd 12 := ⟨_, rfl⟩
      rw [← hkk] at C12 k12
      clear hkk
      have K19 : Hid (∀ w' : World, w'.heap[g19]? = some (.cells #[.int .i64 kd, .int .i64 id, .int .i64 wd, .int .u64 v] 108 (0, 0)) → w'.cell? ⟨g19, 0, none⟩ = some (.int .i64 kd)) := fun w' h => by rw [cell_of_block h]; rfl
      have c0 := unhide K19 _ (unhide B19)
      go_upto_if 121 with (go_at_call 48; refine (unhide C12 _).mono ?_; rintro e w6 ⟨rfl, rfl⟩)
      clear c0
      go_cut [17, 20, 21, 22, 23] from 104 to 270 (fun s17 s20 s21 s22 s23 wx => ∃ (ts2 : List Int) (S2 : Sto), Hid (Fine S2 K A (8 * k) N) ∧ ts2.length ≤ k + 1 ∧ Hid (RowX W.heap.size s17 ts2 wx) ∧ Hid (PP W P S2 A S2 K A wx (fun j => j = g19 ∨ s17.ownBlock = some j)) ∧ Hid (wx.heap[g19]? = some (.cells #[.int .i64 kd, .int .i64 id, .int .i64 wd, .int .u64 v] 108 (0, 0))))
      case first =>
        by_cases h7 : kk = 7
        · subst h7
          have CT1 := hide ((unhide HP).takeL (unhide FI).ok)
          have CT2 := hide (fun (w' : World) (h' : PP W P S.took A S K A w' (fun j => j = g19 ∨ u17.ownBlock = some j)) => h'.takeR (unhide FI).ok)
          have FIT := hide (unhide FI).took
          obtain ⟨ae, hae⟩ : ∃ ae, ae = S.F.allocE := ⟨_, rfl⟩
          rw [← hae] at CT1 CT2
          generalize S.F.allocV = av at *
          clear hae
          go_wp2_with fail
          refine (unhide CT1).mono ?_
          rintro e w7 ⟨rfl, h1, h2⟩
          have HP1 := hide h1
          have HS1 := hide h2
          have cf : w7.cell? ⟨P.y, 1, none⟩ = some (.pointer (some ⟨P.f, 0, none⟩)) := (show YHas W P.z P.y P.f P.g (PSt W P.m P.b P.z S.took A) S K A w7 _ from h1).rep.c1
          clear h1 h2 CT1
          go_wp2_with fail
          refine (unhide CT2 _ (unhide HP1)).mono ?_
          rintro e w8 ⟨rfl, h1, h2⟩
          have HP2 := hide h1
          have HS2 := hide ((unhide HS1).trans h2)
          have HR2 := hide ((unhide HR).same (w' := w8) (fun j e => unhide HS2 j (Or.inr e)))
          have B8 := hide ((unhide HS2 g19 (Or.inl rfl)).trans (unhide B19))
          clear h1 h2 CT2 HP1 HS1 cf HP HR B19 HS2
          by_cases hz0 : ae = 0
          · subst hz0
            have hlen : ts.length < 1000 := by omega
            go_wp2_with (at_builtin; refine push_pp (PP.stay W P S.took A S.took K A) av rfl (.tmp 145) (.tmp 147) rfl rfl (unhide HP2) (unhide HR2) (unhide HD) rfl hlen ?_; intro v' w9 r1 r2 r3 r4; have Q1 := hide r1; have Q2 := hide r2; have Q3 := hide r3; clear r1 r2 r3 r4)
            go_meet
            exact ⟨ts ++ [av], S.took, unhide FIT, by simp; omega, unhide Q1, unhide Q2, (unhide Q3 g19 rfl).trans (unhide B8)⟩
          · have hz1 : (ae == 0) = false := by simpa using hz0
            go_wp2_with fail
            go_meet
            exact ⟨ts, S.took, unhide FIT, by omega, unhide HR2, unhide HP2, unhide B8⟩
        · have h71 : ((kk : Int) == 7) = false := by simp; omega
          go_wp2_with fail
          go_meet
          exact ⟨ts, S, unhide FI, by omega, unhide HR, unhide HP, unhide B19⟩
      case rest =>
      clear HP HR FI B19 HD
      obtain ⟨ts2, S2, fi2, hts2, hr2, hp2, hb2⟩ := hcut
      have FI := hide (unhide fi2)
      have HR := hide (unhide hr2)
      have HP := hide (unhide hp2)
      have B19 := hide (unhide hb2)
      clear fi2 hr2 hp2 hb2 hts
      have c0 := unhide K19 _ (unhide B19)
      go_upto_if 152 with (go_at_call 48; refine (unhide C12 _).mono ?_; rintro e wc ⟨rfl, rfl⟩)
      clear c0 C12 K19
      go_cut [9, 13, 24] from 104 to 270 (fun s9 s13 s24 wx => ∃ P2 : Pl, P2.z = P.z ∧ P2.y = P.y ∧ s9 = .pointer (some ⟨P2.m, 0, none⟩) ∧ s13 = .pointer (some ⟨P2.b, 0, none⟩) ∧ Hid (RowX W.heap.size u17 ts2 wx) ∧ Hid (PP W P2 S2 A S2 K A wx (fun j => j = g19 ∨ u17.ownBlock = some j)) ∧ Hid (wx.heap[g19]? = some (.cells #[.int .i64 kd, .int .i64 id, .int .i64 wd, .int .u64 v] 108 (0, 0))))
      case first =>
        by_cases h11 : kk = 11
        · subst h11
          have hA8 : Hid (A.ok (8 * k)) := (unhide FI).am
          have CC := hide ((unhide HP).clone (ok_mono (unhide FI).am (by omega)))
          go_wp2_with fail
          refine (unhide CC).mono ?_
          rintro e V1 ⟨m2, H, rfl, hsh, hGH, hsm, hback⟩
          have SH := hide hsh
          have SM := hide hsm
          have GH := hide hGH
          have BACK := hide hback
          clear hsh hGH hsm hback CC
          go_wp2_with fail
          refine (sclone_any (unhide SH).rep m2).mono ?_
          rintro e V2 ⟨b2, rfl, hr2, hk2, hb2⟩
          obtain ⟨ob, hob⟩ : ∃ ob, V2.heap[b2]? = some ob := ⟨V2.heap[b2]'(Blk.lt hr2), Array.getElem?_eq_getElem _⟩
          have O1 := hide ((Held.start (SHas.stay (Has.memL W P.m) P.b S2 A) (unhide SH)).joins (SHas.stay (Has.memL W P.m) P.b S2 A) hk2 b2 ob hb2 hob)
          have RB : Hid (∀ w' : World, w'.heap[b2]? = some ob → SRep m2 S2 w' b2) := fun w' h => by
            have := hr2
            unfold SRep Blk at this ⊢
            rw [h, ← hob]; exact this
          have HB2 := hide hb2
          clear hr2 hk2 hb2 hob SH
          have M := hide (Has.memL W P.m)
          have CM := hide (make_any (unhide M) (unhide O1).st (unhide FI).ok (ok_mono (unhide hA8) (by omega)) 1)
          have OKM := hide (makeS_ok (unhide FI).ok A 1)
          have AKM := hide (makeM_ok (S := S2) (unhide hA8) 1)
          generalize S2.makeI A 1 = mi at *
          generalize S2.makeE A 1 = me at *
          generalize S2.makeS A 1 = SM1 at *
          generalize S2.makeM A 1 = AM1 at *
          go_wp2_with fail
          refine (unhide CM).mono ?_
          rintro e V3 ⟨rfl, h1, h2⟩
          have O2 := hide ((unhide O1).call (St' := SHas W P.m P.b (fun A w G => Has W w G P.m A) SM1 AM1) h1 h2)
          clear h1 h2 CM O1
          have CS := hide (set_any (unhide M) (unhide O2).st (unhide OKM) (ok_mono (unhide AKM) (by omega)) 0 0 99 ⟨by decide, by decide⟩)
          generalize SM1.setE AM1 0 0 99 = se at *
          generalize SM1.setS AM1 0 0 99 = SM2 at *
          generalize SM1.setM AM1 0 0 99 = AM2 at *
          go_wp2_with fail
          refine (unhide CS).mono ?_
          rintro e V4 ⟨rfl, h1, h2⟩
          have O3 := hide ((unhide O2).call (St' := SHas W P.m P.b (fun A w G => Has W w G P.m A) SM2 AM2) h1 h2)
          clear h1 h2 CS O2
          have CK := hide (mark_obj (unhide M) (unhide O3).st)
          generalize SM2.markE = ke at *
          generalize SM2.markS = SM3 at *
          go_wp2_with fail
          refine (unhide CK).mono ?_
          rintro e V5 ⟨rfl, h1, h2⟩
          have O4 := hide ((unhide O3).call (St' := SHas W P.m P.b (fun A w G => Has W w G P.m A) SM3 AM2) h1 h2)
          clear h1 h2 CK O3
          have HPN := hide (unhide BACK V5 SM3 AM2 b2 ((SHas.stay (unhide M) P.b SM3 AM2).ls _ _ _ (unhide O4).st (fun j hj => hj.imp (fun q => q) fun e => ⟨ob, by rw [e]; exact List.mem_cons_self⟩)) (unhide RB V5 ((unhide O4).at b2 ob (by simp))) (unhide HB2) (unhide O4).2.2)
          have SMM : Hid (Same (fun j => j = g19 ∨ u17.ownBlock = some j) wc V5) := fun j hj => ((unhide O4).2.2 j (unhide GH j hj)).trans (unhide SM j hj)
          have HRN := hide ((unhide HR).same (w' := V5) (fun j e => unhide SMM j (Or.inr e)))
          have B19N := hide ((unhide SMM g19 (Or.inl rfl)).trans (unhide B19))
          clear O4 BACK SM GH RB HB2 SMM HR HP B19 M OKM AKM
          go_wp2_with fail
          go_meet
          exact ⟨⟨m2, b2, P.z, P.y, P.f, P.g⟩, rfl, rfl, rfl, rfl, unhide HRN, unhide HPN, unhide B19N⟩
        · have h111 : ((kk : Int) == 11) = false := by simp; omega
          go_wp2_with fail
          go_meet
          exact ⟨P, rfl, rfl, rfl, rfl, unhide HR, unhide HP, unhide B19⟩
      case rest =>
      clear HP HR B19
      obtain ⟨P2, hz2, hy2, rfl, rfl, hr2, hp2, hb2⟩ := hcut
      rw [← hz2, ← hy2]
      have HZE := hide hz2
      have HYE := hide hy2
      clear hz2 hy2
      obtain ⟨P, hP⟩ : ∃ P : Pl, P = P2 := ⟨_, rfl⟩
      subst hP
      have HR := hide (unhide hr2)
      have HP := hide (unhide hp2)
      have B19 := hide (unhide hb2)
      clear hr2 hp2 hb2
      as_aux_lemma =>
        obtain ⟨a1, cap1, rfl, -, -⟩ := (unhide HR).src
        have s4l : (Tryz.prog.info? 108).map (·.size) = some (#[Value.int .i64 kd, .int .i64 id, .int .i64 wd, .int .u64 v] : Array Value).size := by show _ = some 4; kernel_rfl
        have CD := hide (does_any (unhide HP) (unhide FI) (by omega) ⟨kd, id, wd, v⟩ (unhide hfit) a1 ts2 cap1 (fun w' hs => by
          obtain ⟨a', c', e', q, -⟩ := ((unhide HR).same (w' := w') (fun j e => hs j (Or.inr e))).src
          obtain ⟨rfl, -, -⟩ := Value.slice.inj e'
          exact q) (by omega))
        go_wp2_with (with_reducible refine wpList_load_row (by with_unfolding_all rfl) 108 (.tmp 19) (by with_unfolding_all rfl) g19 (by with_unfolding_all rfl) _ _ _ _ (unhide B19) Tryz.underlying108 (by with_unfolding_all rfl) s4l ?_)
        refine (unhide CD).mono ?_
        rintro e w20 ⟨rfl, S1, K1, A1, hf1, hp1, hs1⟩
        have FI1 := hide hf1
        have HP1 := hide hp1
        have HR1 := hide ((unhide HR).same (w' := w20) (fun j e => hs1 j (Or.inr e)))
        have B20 := hide ((hs1 g19 (Or.inl rfl)).trans (unhide B19))
        clear CD hf1 hp1 hs1 HP FI HR B19 s4l
        have SO : Hid (∀ w' : World, w'.heap[g19]? = some (.cells #[.int .i64 kd, .int .i64 id, .int .i64 wd, .int .u64 v] 108 (0, 0)) → w'.cell? ⟨g19, 1, none⟩ = some (.int .i64 id) ∧ w'.cell? ⟨g19, 2, none⟩ = some (.int .i64 wd) ∧ w'.cell? ⟨g19, 3, none⟩ = some (.int .u64 v)) := fun w' h => by
          refine ⟨?_, ?_, ?_⟩ <;> rw [cell_of_block h] <;> rfl
        have hAn : A1.n ≤ 1024 := by rw [(unhide FI1).an]; exact unhide HN2
        obtain ⟨ok1, ov1, of1, hob⟩ := getV_ob S1 A1 id
        have HG : Hid (getT S1 A1 id = .tuple #[.agg (obV ok1 ov1 of1), .int .i64 (S1.getE A1 id)]) := by show _ = _; unfold getT; rw [hob]
        have CG1 := hide ((unhide HP1).getL hAn id)
        have CG2 := hide (fun (w' : World) G' (h' : PP W P S1 A1 S1 K1 A1 w' G') => h'.getR (ok_mono (unhide FI1).am (by omega)) id)
        rw [unhide HG] at CG1 CG2
        have CN1 := hide (fun (w' : World) G' (h' : PP W P S1 A1 S1 K1 A1 w' G') => h'.namesL v (unhide hfit).2.2.2)
        have CN2 := hide (fun (w' : World) G' (h' : PP W P S1 A1 S1 K1 A1 w' G') => h'.namesR v (unhide hfit).2.2.2)
        have CX1 := hide (fun (w' : World) G' (h' : PP W P S1 A1 S1 K1 A1 w' G') => h'.nextL wd)
        have CX2 := hide (fun (w' : World) G' (h' : PP W P S1 A1 S1 K1 A1 w' G') => h'.nextR wd)
        have HNX : Hid (nextT S1 wd = .tuple #[.int .i64 (S1.nextI wd), .int .i64 (S1.nextV wd), .int .i64 (S1.nextE wd)]) := rfl
        rw [unhide HNX] at CX1 CX2
        have CLK := hide (fun (w' : World) G' (h' : PP W P S1 A1 S1 K1 A1 w' G') => h'.like (unhide FI1).ok (unhide FI1).mks)
        have EQO := hide (fun (w : World) => equal_ob ok1 ov1 of1 w)
        have s10 := s10_ob ok1 ov1 of1
        have X10 := hide (obV_one ok1 ov1 of1)
        have SZ10 : Hid ((obV 0 0 fun _ => 0).size = (obV ok1 ov1 of1).size) := by show _ = _; rw [obV_size, obV_size]
        have Z10 := hide zero_ob
        generalize (obV 0 0 fun _ => 0) = ZO at *
        clear HG HNX hAn hob
        generalize obV ok1 ov1 of1 = OV at *
        generalize S1.getE A1 id = EG at *
        generalize S1.nameI v = NI at *
        generalize S1.nameE v = NE at *
        generalize S1.nextI wd = XI at *
        generalize S1.nextV wd = XV at *
        generalize S1.nextE wd = XE at *
        have s10l : (Tryz.prog.info? 87).map (·.size) = some OV.toList.length := by rw [Array.length_toList]; exact s10
        obtain ⟨c1, c2, c3⟩ := unhide SO _ (unhide B20)
        go_wp2_with fail
        refine (unhide CG1).mono ?_
        rintro e w21 ⟨rfl, h1, h2⟩
        have O1 := hide (((Held.start (PP.stay W P S1 A1 S1 K1 A1) (unhide HP1)).call (St' := PP W P S1 A1 S1 K1 A1) ((PP.stay W P S1 A1 S1 K1 A1).ls _ _ _ h1 (fun j hj => by
          rcases hj with hj | ⟨_, hj⟩
          · exact hj
          · cases hj)) (fun j hj => h2 j (by
          rcases hj with hj | ⟨_, hj⟩
          · exact hj
          · cases hj))).alloc (PP.stay W P S1 A1 S1 K1 A1) (.cells OV 87))
        clear h1 h2 CG1 HP1 c1 c2 c3
        go_upto_region 38 with (first | (with_reducible refine wpList_allocZ (by with_unfolding_all rfl) 87 (by with_unfolding_all rfl) ZO (unhide Z10) ?_) | (with_reducible refine wpList_store_row (by with_unfolding_all rfl) 87 _ _ (by with_unfolding_all rfl) w21.heap.size OV (by with_unfolding_all rfl) (by with_unfolding_all rfl) 87 ZO (heap_new w21 _) s10 (unhide SZ10) (unhide X10) ?_; rw [setRow_alloc]))
        obtain ⟨g26, hg⟩ : ∃ g26, g26 = w21.heap.size := ⟨_, rfl⟩
        rw [← hg] at O1 ⊢
        clear hg
        generalize w21.alloc (.cells OV 87) = w22 at *
        have BK : Hid (∀ w' L, Held W (PP W P S1 A1 S1 K1 A1) w20 w' (fun j => j = g19 ∨ (Value.slice a1 ts2.length cap1).ownBlock = some j) L → w'.heap[g19]? = some (.cells #[.int .i64 kd, .int .i64 id, .int .i64 wd, .int .u64 v] 108 (0, 0))) := fun w' L hO => (hO.2.2 g19 (Or.inl rfl)).trans (unhide B20)
        obtain ⟨c1, c2, c3⟩ := unhide SO _ (unhide BK _ _ (unhide O1))
        go_wp2_with fail
        refine (unhide CG2 _ _ (unhide O1).st).mono ?_
        rintro e w23 ⟨rfl, h1, h2⟩
        have O2 := hide (((unhide O1).call (St' := PP W P S1 A1 S1 K1 A1) h1 h2).alloc (PP.stay W P S1 A1 S1 K1 A1) (.cells OV 87))
        clear h1 h2 CG2 O1 c1 c2 c3
        go_upto_region 39 with (first | (with_reducible refine wpList_allocZ (by with_unfolding_all rfl) 87 (by with_unfolding_all rfl) ZO (unhide Z10) ?_) | (with_reducible refine wpList_store_row (by with_unfolding_all rfl) 87 _ _ (by with_unfolding_all rfl) w23.heap.size OV (by with_unfolding_all rfl) (by with_unfolding_all rfl) 87 ZO (heap_new w23 _) s10 (unhide SZ10) (unhide X10) ?_; rw [setRow_alloc]))
        obtain ⟨g28, hg⟩ : ∃ g28, g28 = w23.heap.size := ⟨_, rfl⟩
        rw [← hg] at O2 ⊢
        clear hg
        generalize w23.alloc (.cells OV 87) = w24 at *
        as_aux_lemma =>
          obtain ⟨c1, c2, c3⟩ := unhide SO _ (unhide BK _ _ (unhide O2))
          go_wp2_with fail
          refine (unhide CN1 _ _ (unhide O2).st).mono ?_
          rintro e w25 ⟨rfl, h1, h2⟩
          have O3 := hide ((unhide O2).call (St' := PP W P S1 A1 S1 K1 A1) h1 h2)
          clear h1 h2 CN1 O2 c1 c2 c3
          obtain ⟨c1, c2, c3⟩ := unhide SO _ (unhide BK _ _ (unhide O3))
          go_wp2_with fail
          refine (unhide CN2 _ _ (unhide O3).st).mono ?_
          rintro e w26 ⟨rfl, h1, h2⟩
          have O4 := hide ((unhide O3).call (St' := PP W P S1 A1 S1 K1 A1) h1 h2)
          clear h1 h2 CN2 O3 c1 c2 c3
          obtain ⟨c1, c2, c3⟩ := unhide SO _ (unhide BK _ _ (unhide O4))
          go_wp2_with fail
          refine (unhide CX1 _ _ (unhide O4).st).mono ?_
          rintro e w27 ⟨rfl, h1, h2⟩
          have O5 := hide ((unhide O4).call (St' := PP W P S1 A1 S1 K1 A1) h1 h2)
          clear h1 h2 CX1 O4 c1 c2 c3
          obtain ⟨c1, c2, c3⟩ := unhide SO _ (unhide BK _ _ (unhide O5))
          go_wp2_with fail
          refine (unhide CX2 _ _ (unhide O5).st).mono ?_
          rintro e w28 ⟨rfl, h1, h2⟩
          have O6 := hide ((unhide O5).call (St' := PP W P S1 A1 S1 K1 A1) h1 h2)
          clear h1 h2 CX2 O5 c1 c2 c3
          go_wp2_with fail
          refine (unhide CLK _ _ (unhide O6).st).mono ?_
          rintro e w29 ⟨rfl, h1, h2⟩
          have O7 := hide ((unhide O6).call (St' := PP W P S1 A1 S1 K1 A1) h1 h2)
          clear h1 h2 CLK O6
          go_upto_region 44 with fail
          have O8 := hide ((unhide O7).drew (PP.stay W P S1 A1 S1 K1 A1))
          clear O7 SO BK
          have SS : Hid (w29.drew.rangeAt g26 0 OV.toList ∧ w29.drew.rangeAt g28 0 OV.toList ∧ w29.drew.cell? ⟨P.z, 4, none⟩ = some (.int .i64 (A1.steps : Int))) := ⟨fun j u hu => by rw [cell_of_block ((unhide O8).at g26 (.cells OV 87) (by simp)), Nat.zero_add, ← Array.getElem?_toList]; exact hu, fun j u hu => by rw [cell_of_block ((unhide O8).at g28 (.cells OV 87) (by simp)), Nat.zero_add, ← Array.getElem?_toList]; exact hu, count (unhide O8).st⟩
          have CST := hide (steps (unhide O8).st)
          as_aux_lemma =>
            refine wp_region_noPanic ?_
            refine wp_region_held_drew (S := fun w' => w'.rangeAt g26 0 OV.toList ∧ w'.rangeAt g28 0 OV.toList ∧ w'.cell? ⟨P.z, 4, none⟩ = some (.int .i64 (A1.steps : Int))) (by kernel_rfl) (unhide SS) (fun hHeld => ?_)
            generalize w29.drew = w30 at *
            generalize (A1.steps : Int) = stp at *
            clear SS
            refine take_at 0 221 (v := ?_) rfl rfl (by kernel_rfl) (by kernel_rfl) (by kernel_rfl) (Or.inl ⟨by rfl, ?_⟩) hHeld ?_
            rotate_left
            · intro w hSw; go_simp; with_reducible rfl
            simp only [Act.put, List.setIfInBounds_toArray, List.set_cons_zero, List.set_cons_succ]
            refine take_at 1 222 (v := ?_) rfl rfl (by kernel_rfl) (by kernel_rfl) (by kernel_rfl) (Or.inl ⟨by rfl, ?_⟩) hHeld ?_
            rotate_left
            · intro w hSw; go_simp; with_reducible rfl
            simp only [Act.put, List.setIfInBounds_toArray, List.set_cons_zero, List.set_cons_succ]
            refine take_at 2 223 (v := ?_) rfl rfl (by kernel_rfl) (by kernel_rfl) (by kernel_rfl) (Or.inl ⟨by rfl, ?_⟩) hHeld ?_
            rotate_left
            · intro w hSw; go_simp; with_reducible rfl
            simp only [Act.put, List.setIfInBounds_toArray, List.set_cons_zero, List.set_cons_succ]
            refine take_at 3 224 (v := ?_) rfl rfl (by kernel_rfl) (by kernel_rfl) (by kernel_rfl) (Or.inl ⟨by rfl, ?_⟩) hHeld ?_
            rotate_left
            · intro w hSw; go_simp; with_reducible rfl
            simp only [Act.put, List.setIfInBounds_toArray, List.set_cons_zero, List.set_cons_succ]
            refine take_at 4 225 (v := ?_) rfl rfl (by kernel_rfl) (by kernel_rfl) (by kernel_rfl) (Or.inl ⟨by rfl, ?_⟩) hHeld ?_
            rotate_left
            · intro w hSw; go_simp; with_reducible rfl
            simp only [Act.put, List.setIfInBounds_toArray, List.set_cons_zero, List.set_cons_succ]
            refine take_at 5 226 (v := ?_) rfl rfl (by kernel_rfl) (by kernel_rfl) (by kernel_rfl) (Or.inl ⟨by rfl, ?_⟩) hHeld ?_
            rotate_left
            · intro w hSw; go_simp; with_reducible rfl
            simp only [Act.put, List.setIfInBounds_toArray, List.set_cons_zero, List.set_cons_succ]
            refine take_at 6 227 (v := ?_) rfl rfl (by kernel_rfl) (by kernel_rfl) (by kernel_rfl) (Or.inl ⟨by rfl, ?_⟩) hHeld ?_
            rotate_left
            · intro w hSw; go_simp; with_reducible rfl
            simp only [Act.put, List.setIfInBounds_toArray, List.set_cons_zero, List.set_cons_succ]
            refine take_at 7 228 rfl rfl (by kernel_rfl) (by kernel_rfl) (by kernel_rfl) (yieldsIf_load_mid (by rfl) 87 _ rfl g26 0 rfl OV.toList _ (fun w' h => h.1) Tryz.underlying87 rfl s10l) hHeld ?_
            simp only [Act.put, List.setIfInBounds_toArray, List.set_cons_zero, List.set_cons_succ]
            refine take_at 8 229 rfl rfl (by kernel_rfl) (by kernel_rfl) (by kernel_rfl) (yieldsIf_load_mid (by rfl) 87 _ rfl g28 0 rfl OV.toList _ (fun w' h => h.2.1) Tryz.underlying87 rfl s10l) hHeld ?_
            simp only [Act.put, List.setIfInBounds_toArray, List.set_cons_zero, List.set_cons_succ]
            refine take_at 9 230 rfl rfl (by kernel_rfl) (by kernel_rfl) (by kernel_rfl) (yieldsIf_neqA (by rfl) 87 _ (.tmp 228) (.tmp 229) rfl OV OV rfl rfl ob_guard true (unhide EQO)) hHeld ?_
            simp only [Act.put, List.setIfInBounds_toArray, List.set_cons_zero, List.set_cons_succ]
            refine take_at 10 231 (v := ?_) rfl rfl (by kernel_rfl) (by kernel_rfl) (by kernel_rfl) (Or.inl ⟨by rfl, ?_⟩) hHeld ?_
            rotate_left
            · intro w hSw; go_simp; with_reducible rfl
            simp only [Act.put, List.setIfInBounds_toArray, List.set_cons_zero, List.set_cons_succ]
            refine take_at 11 232 (v := ?_) rfl rfl (by kernel_rfl) (by kernel_rfl) (by kernel_rfl) (Or.inl ⟨by rfl, ?_⟩) hHeld ?_
            rotate_left
            · intro w hSw; go_simp; with_reducible rfl
            simp only [Act.put, List.setIfInBounds_toArray, List.set_cons_zero, List.set_cons_succ]
            refine take_at 12 233 (v := ?_) rfl rfl (by kernel_rfl) (by kernel_rfl) (by kernel_rfl) (Or.inl ⟨by rfl, ?_⟩) hHeld ?_
            rotate_left
            · intro w hSw; go_simp; with_reducible rfl
            simp only [Act.put, List.setIfInBounds_toArray, List.set_cons_zero, List.set_cons_succ]
            refine take_at 13 234 (v := ?_) rfl rfl (by kernel_rfl) (by kernel_rfl) (by kernel_rfl) (Or.inl ⟨by rfl, ?_⟩) hHeld ?_
            rotate_left
            · intro w hSw; go_simp; with_reducible rfl
            simp only [Act.put, List.setIfInBounds_toArray, List.set_cons_zero, List.set_cons_succ]
            refine take_at 14 235 (v := ?_) rfl rfl (by kernel_rfl) (by kernel_rfl) (by kernel_rfl) (Or.inl ⟨by rfl, ?_⟩) hHeld ?_
            rotate_left
            · intro w hSw; go_simp; with_reducible rfl
            simp only [Act.put, List.setIfInBounds_toArray, List.set_cons_zero, List.set_cons_succ]
            refine take_at 15 236 (v := ?_) rfl rfl (by kernel_rfl) (by kernel_rfl) (by kernel_rfl) (Or.inl ⟨by rfl, ?_⟩) hHeld ?_
            rotate_left
            · intro w hSw; go_simp; with_reducible rfl
            simp only [Act.put, List.setIfInBounds_toArray, List.set_cons_zero, List.set_cons_succ]
            as_aux_lemma =>
              refine take_at 16 237 (v := ?_) rfl rfl (by kernel_rfl) (by kernel_rfl) (by kernel_rfl) (Or.inl ⟨by rfl, ?_⟩) hHeld ?_
              rotate_left
              · intro w hSw; go_simp; with_reducible rfl
              simp only [Act.put, List.setIfInBounds_toArray, List.set_cons_zero, List.set_cons_succ]
              refine take_at 17 238 (v := ?_) rfl rfl (by kernel_rfl) (by kernel_rfl) (by kernel_rfl) (Or.inl ⟨by rfl, ?_⟩) hHeld ?_
              rotate_left
              · intro w hSw; go_simp; with_reducible rfl
              simp only [Act.put, List.setIfInBounds_toArray, List.set_cons_zero, List.set_cons_succ]
              refine take_at 18 239 (v := ?_) rfl rfl (by kernel_rfl) (by kernel_rfl) (by kernel_rfl) (Or.inl ⟨by rfl, ?_⟩) hHeld ?_
              rotate_left
              · intro w hSw; go_simp; with_reducible rfl
              simp only [Act.put, List.setIfInBounds_toArray, List.set_cons_zero, List.set_cons_succ]
              refine take_at 19 240 (v := ?_) rfl rfl (by kernel_rfl) (by kernel_rfl) (by kernel_rfl) (Or.inl ⟨by rfl, ?_⟩) hHeld ?_
              rotate_left
              · intro w hSw; go_simp; with_reducible rfl
              simp only [Act.put, List.setIfInBounds_toArray, List.set_cons_zero, List.set_cons_succ]
              refine take_at 20 241 (v := ?_) rfl rfl (by kernel_rfl) (by kernel_rfl) (by kernel_rfl) (Or.inl ⟨by rfl, ?_⟩) hHeld ?_
              rotate_left
              · intro w hSw; go_simp; with_reducible rfl
              simp only [Act.put, List.setIfInBounds_toArray, List.set_cons_zero, List.set_cons_succ]
              refine take_at 21 242 (v := ?_) rfl rfl (by kernel_rfl) (by kernel_rfl) (by kernel_rfl) (Or.inl ⟨by rfl, ?_⟩) hHeld ?_
              rotate_left
              · intro w hSw; go_simp; with_reducible rfl
              simp only [Act.put, List.setIfInBounds_toArray, List.set_cons_zero, List.set_cons_succ]
              refine take_at 22 243 (v := ?_) rfl rfl (by kernel_rfl) (by kernel_rfl) (by kernel_rfl) (Or.inl ⟨by rfl, ?_⟩) hHeld ?_
              rotate_left
              · intro w hSw; go_simp; with_reducible rfl
              simp only [Act.put, List.setIfInBounds_toArray, List.set_cons_zero, List.set_cons_succ]
              refine take_at 23 244 (v := ?_) rfl rfl (by kernel_rfl) (by kernel_rfl) (by kernel_rfl) (Or.inl ⟨by rfl, ?_⟩) hHeld ?_
              rotate_left
              · intro w hSw; go_simp; with_reducible rfl
              simp only [Act.put, List.setIfInBounds_toArray, List.set_cons_zero, List.set_cons_succ]
              refine take_at 24 245 (v := ?_) rfl rfl (by kernel_rfl) (by kernel_rfl) (by kernel_rfl) (Or.inl ⟨by rfl, ?_⟩) hHeld ?_
              rotate_left
              · intro w hSw; go_simp; with_reducible rfl
              simp only [Act.put, List.setIfInBounds_toArray, List.set_cons_zero, List.set_cons_succ]
              refine take_at 25 246 (v := ?_) rfl rfl (by kernel_rfl) (by kernel_rfl) (by kernel_rfl) (Or.inl ⟨by rfl, ?_⟩) hHeld ?_
              rotate_left
              · intro w hSw; go_simp; with_reducible rfl
              simp only [Act.put, List.setIfInBounds_toArray, List.set_cons_zero, List.set_cons_succ]
              refine take_at 26 247 (v := ?_) rfl rfl (by kernel_rfl) (by kernel_rfl) (by kernel_rfl) (Or.inl ⟨by rfl, ?_⟩) hHeld ?_
              rotate_left
              · intro w hSw; go_simp; with_reducible rfl
              simp only [Act.put, List.setIfInBounds_toArray, List.set_cons_zero, List.set_cons_succ]
              refine take_at 27 248 (v := ?_) rfl rfl (by kernel_rfl) (by kernel_rfl) (by kernel_rfl) (Or.inl ⟨by rfl, ?_⟩) hHeld ?_
              rotate_left
              · intro w hSw; go_simp; with_reducible rfl
              simp only [Act.put, List.setIfInBounds_toArray, List.set_cons_zero, List.set_cons_succ]
              refine take_at 28 249 (v := ?_) rfl rfl (by kernel_rfl) (by kernel_rfl) (by kernel_rfl) (Or.inl ⟨by rfl, ?_⟩) hHeld ?_
              rotate_left
              · intro w hSw; go_simp; with_reducible rfl
              simp only [Act.put, List.setIfInBounds_toArray, List.set_cons_zero, List.set_cons_succ]
              refine take_at 29 250 (v := ?_) rfl rfl (by kernel_rfl) (by kernel_rfl) (by kernel_rfl) (Or.inl ⟨by rfl, ?_⟩) hHeld ?_
              rotate_left
              · intro w hSw; go_simp; with_reducible rfl
              simp only [Act.put, List.setIfInBounds_toArray, List.set_cons_zero, List.set_cons_succ]
              refine take_at 30 251 (v := ?_) rfl rfl (by kernel_rfl) (by kernel_rfl) (by kernel_rfl) (Or.inl ⟨by rfl, ?_⟩) hHeld ?_
              rotate_left
              · intro w hSw; go_simp; with_reducible rfl
              simp only [Act.put, List.setIfInBounds_toArray, List.set_cons_zero, List.set_cons_succ]
              refine take_at 31 252 (v := ?_) rfl rfl (by kernel_rfl) (by kernel_rfl) (by kernel_rfl) (Or.inl ⟨by rfl, ?_⟩) hHeld ?_
              rotate_left
              · intro w hSw; go_simp; with_reducible rfl
              simp only [Act.put, List.setIfInBounds_toArray, List.set_cons_zero, List.set_cons_succ]
              refine take_at 32 253 (v := ?_) rfl rfl (by kernel_rfl) (by kernel_rfl) (by kernel_rfl) (Or.inl ⟨by rfl, ?_⟩) hHeld ?_
              rotate_left
              · intro w hSw; go_simp; with_reducible rfl
              simp only [Act.put, List.setIfInBounds_toArray, List.set_cons_zero, List.set_cons_succ]
              as_aux_lemma =>
                refine take_at 33 254 (v := ?_) rfl rfl (by kernel_rfl) (by kernel_rfl) (by kernel_rfl) (Or.inl ⟨by rfl, ?_⟩) hHeld ?_
                rotate_left
                · intro w hSw; go_simp; with_reducible rfl
                simp only [Act.put, List.setIfInBounds_toArray, List.set_cons_zero, List.set_cons_succ]
                refine take_at 34 255 (v := ?_) rfl rfl (by kernel_rfl) (by kernel_rfl) (by kernel_rfl) (Or.inl ⟨by rfl, ?_⟩) hHeld ?_
                rotate_left
                · intro w hSw; go_simp; with_reducible rfl
                simp only [Act.put, List.setIfInBounds_toArray, List.set_cons_zero, List.set_cons_succ]
                refine take_at 35 256 (v := ?_) rfl rfl (by kernel_rfl) (by kernel_rfl) (by kernel_rfl) (Or.inl ⟨by rfl, ?_⟩) hHeld ?_
                rotate_left
                · intro w hSw; go_simp; with_reducible rfl
                simp only [Act.put, List.setIfInBounds_toArray, List.set_cons_zero, List.set_cons_succ]
                refine take_at 36 257 (v := ?_) rfl rfl (by kernel_rfl) (by kernel_rfl) (by kernel_rfl) (Or.inl ⟨by rfl, ?_⟩) hHeld ?_
                rotate_left
                · intro w hSw; go_simp; with_reducible rfl
                simp only [Act.put, List.setIfInBounds_toArray, List.set_cons_zero, List.set_cons_succ]
                refine take_at 37 258 (v := ?_) rfl rfl (by kernel_rfl) (by kernel_rfl) (by kernel_rfl) (Or.inl ⟨by rfl, ?_⟩) hHeld ?_
                rotate_left
                · intro w hSw; go_simp; with_reducible rfl
                simp only [Act.put, List.setIfInBounds_toArray, List.set_cons_zero, List.set_cons_succ]
                refine take_at 38 259 (v := ?_) rfl rfl (by kernel_rfl) (by kernel_rfl) (by kernel_rfl) (Or.inl ⟨by rfl, ?_⟩) hHeld ?_
                rotate_left
                · intro w hSw; go_simp; with_reducible rfl
                simp only [Act.put, List.setIfInBounds_toArray, List.set_cons_zero, List.set_cons_succ]
                refine take_at 39 260 (v := ?_) rfl rfl (by kernel_rfl) (by kernel_rfl) (by kernel_rfl) (Or.inl ⟨by rfl, ?_⟩) hHeld ?_
                rotate_left
                · intro w hSw; go_simp; with_reducible rfl
                simp only [Act.put, List.setIfInBounds_toArray, List.set_cons_zero, List.set_cons_succ]
                refine take_at 40 261 (v := ?_) rfl rfl (by kernel_rfl) (by kernel_rfl) (by kernel_rfl) (Or.inl ⟨by rfl, ?_⟩) hHeld ?_
                rotate_left
                · intro w hSw; go_simp; with_reducible rfl
                simp only [Act.put, List.setIfInBounds_toArray, List.set_cons_zero, List.set_cons_succ]
                refine take_at 41 262 (v := ?_) rfl rfl (by kernel_rfl) (by kernel_rfl) (by kernel_rfl) (Or.inl ⟨by rfl, ?_⟩) hHeld ?_
                rotate_left
                · intro w hSw; go_simp; with_reducible rfl
                simp only [Act.put, List.setIfInBounds_toArray, List.set_cons_zero, List.set_cons_succ]
                refine take_at 42 263 (v := ?_) rfl rfl (by kernel_rfl) (by kernel_rfl) (by kernel_rfl) (Or.inl ⟨by rfl, ?_⟩) hHeld ?_
                rotate_left
                · intro w hSw; go_simp; with_reducible rfl
                simp only [Act.put, List.setIfInBounds_toArray, List.set_cons_zero, List.set_cons_succ]
                refine take_at 44 265 (v := ?_) rfl rfl (by kernel_rfl) (by kernel_rfl) (by kernel_rfl) (Or.inl ⟨by rfl, ?_⟩) hHeld ?_
                rotate_left
                · intro w hSw; go_simp; with_reducible rfl
                simp only [Act.put, List.setIfInBounds_toArray, List.set_cons_zero, List.set_cons_succ]
                refine take_at 45 266 (v := ?_) rfl rfl (by kernel_rfl) (by kernel_rfl) (by kernel_rfl) (Or.inl ⟨by rfl, ?_⟩) hHeld ?_
                rotate_left
                · intro w hSw; go_simp; with_reducible rfl
                simp only [Act.put, List.setIfInBounds_toArray, List.set_cons_zero, List.set_cons_succ]
                refine take_at 46 267 (v := ?_) rfl rfl (by kernel_rfl) (by kernel_rfl) (by kernel_rfl) (Or.inl ⟨by rfl, ?_⟩) hHeld ?_
                rotate_left
                · intro w hSw; go_simp; with_reducible rfl
                simp only [Act.put, List.setIfInBounds_toArray, List.set_cons_zero, List.set_cons_succ]
                refine take_at 47 268 (v := ?_) rfl rfl (by kernel_rfl) (by kernel_rfl) (by kernel_rfl) (Or.inl ⟨by rfl, ?_⟩) hHeld ?_
                rotate_left
                · intro w hSw; obtain ⟨s1, s2, s3⟩ := hSw; go_simp; with_reducible rfl
                simp only [Act.put, List.setIfInBounds_toArray, List.set_cons_zero, List.set_cons_succ]
                refine wpAnyH_ready (rs := [43]) (by kernel_rfl) (by simp) ?_
                refine AllReadyH.cons rfl (fun K2 hK => ?_) AllReadyH.nil
                refine (if_pos (by rfl)).mpr ?_
                go_simp
                refine (unhide CST).mono ?_
                rintro e wq ⟨rfl, hwq⟩
                subst hwq
                go_wp2_with fail
                refine hK.out _ _ hHeld (fun hNew => ?_)
                clear hK K2 hNew CST
                refine take_at 48 269 (v := ?_) rfl rfl (by kernel_rfl) (by kernel_rfl) (by kernel_rfl) (Or.inl ⟨by rfl, ?_⟩) hHeld ?_
                rotate_left
                · intro w hSw; go_simp; with_reducible rfl
                simp only [Act.put, List.setIfInBounds_toArray, List.set_cons_zero, List.set_cons_succ]
                refine take_at 49 270 (v := ?_) rfl rfl (by kernel_rfl) (by kernel_rfl) (by kernel_rfl) (Or.inl ⟨by rfl, ?_⟩) hHeld ?_
                rotate_left
                · intro w hSw; go_simp; with_reducible rfl
                simp only [Act.put, List.setIfInBounds_toArray, List.set_cons_zero, List.set_cons_succ]
                refine wpAnyH_done (by kernel_rfl) ?_ _
                refine NoPanic.normal ?_
                clear hHeld
                go_wp2_with fail
                rw [show P.z = _ from unhide HZE, show P.y = _ from unhide HYE]
                go_roundw
                case rel => exact ⟨k + 1, P, S1, K1, A1, ts2, by omega, by omega, rfl, rfl, by go_num, unhide HZE, unhide HYE, (unhide FI1).mono (by omega), by omega, (unhide HR1).same (fun j e => (unhide O8).2.2 j (Or.inr e)), (PP.stay W P S1 A1 S1 K1 A1).ls _ _ _ (unhide O8).st (fun j hj => Or.inl (Or.inr hj))⟩
                case measure => simp [intOf]; omega
    · have hor : ¬ ((k : Int) < (n : Int)) ∨ ((k : Int) < (n : Int) ∧ ¬ ((k : Int) < 80)) := by omega
      clear hlt
      rcases hor with h1 | ⟨h1, h2⟩
      · as_aux_lemma =>
          clear HO
          have hN1024 : N ≤ 1024 := unhide HN2
          have AN := hide ((unhide FI).an)
          have HAN : Hid (A.n ≤ 1024) := by show _ ≤ _; rw [unhide AN]; exact unhide HN2
          have HAM : Hid (A.ok 1000) := ok_mono (unhide FI).am (by omega)
          have HQ : Hid (PP W P S A S K A wr (fun _ => False)) := (PP.stay W P _ _ _ _ _).ls _ _ _ (unhide HP) (fun _ h => h.elim)
          obtain ⟨z, hz⟩ : ∃ z, z = P.z := ⟨_, rfl⟩
          clear FI HP HR
          go_upto_region 46 with fail
          generalize (k : Int) = klast at *
          generalize (n : Int) = nlast at *
          go_wp2_with fail
          go_loopw [41] (fun q wr => ∃ j : Nat, j ≤ N ∧ q = .int .i64 j ∧ PP W P S A S K A wr (fun _ => False)) (fun q _ => N - (intOf q).toNat)
          case atStart => exact ⟨0, by omega, rfl, unhide HQ⟩
          case round =>
            clear HQ
            obtain ⟨j, hj, rfl, hh⟩ := hrel
            have HH := hide hh
            clear hh
            by_cases hlt : j < N
            · have hjN : (j : Int) < (N : Int) := by omega
              have CL := hide (loadL (unhide HH) (unhide HAN) (j : Int))
              have CR := hide (fun (w' : World) G' (h' : PP W P S A S K A w' G') => loadR h' (unhide HAM) (j : Int))
              have s8 := s8_ln (A.hasZ (j : Int))
              have X8 := hide (lnV_one (A.hasZ (j : Int)))
              have EQL := hide (fun (w : World) => equal_ln 9998 (A.hasZ (j : Int)) w)
              have ZL : Hid ((Tryz.prog.info? 83).map (·.zero) = some (some (.agg (lnV fun _ => 0)))) := by show _ = _; kernel_rfl
              have SZ : Hid ((lnV fun _ => 0).size = (lnV (A.hasZ (j : Int))).size) := by show _ = _; rw [lnV_size, lnV_size]
              obtain ⟨LV, hLV⟩ : ∃ LV, LV = lnV (A.hasZ (j : Int)) := ⟨_, rfl⟩
              rw [← hLV] at CL CR s8 X8 EQL SZ
              clear hLV
              generalize (lnV fun _ => 0) = LZ at *
              generalize A.loadE (j : Int) = E at *
              go_wp2_with fail
              refine (unhide CL).mono ?_
              rintro e w5 ⟨rfl, h1, -⟩
              have O5 := hide ((Held.start (PP.stay W P S A S K A) h1).alloc (PP.stay W P S A S K A) (.cells LV 83))
              clear h1 CL HH
              go_upto_region 50 with (first | (with_reducible refine wpList_allocZ (by with_unfolding_all rfl) 83 (by with_unfolding_all rfl) LZ (unhide ZL) ?_) | (with_reducible refine wpList_store_row (by with_unfolding_all rfl) 83 _ _ (by with_unfolding_all rfl) w5.heap.size LV (by with_unfolding_all rfl) (by with_unfolding_all rfl) 83 LZ (heap_new w5 _) s8 (unhide SZ) (unhide X8) ?_; rw [setRow_alloc]))
              obtain ⟨g42, hg⟩ : ∃ g42, g42 = w5.heap.size := ⟨_, rfl⟩
              rw [← hg] at O5 ⊢
              clear hg
              generalize w5.alloc (.cells LV 83) = w6 at *
              go_wp2_with fail
              refine (unhide CR _ _ (unhide O5).st).mono ?_
              rintro e w7 ⟨rfl, h1, h2⟩
              have O7 := hide (((unhide O5).call (St' := PP W P S A S K A) h1 h2).alloc (PP.stay W P S A S K A) (.cells LV 83))
              clear h1 h2 CR O5
              go_upto_region 51 with (first | (with_reducible refine wpList_allocZ (by with_unfolding_all rfl) 83 (by with_unfolding_all rfl) LZ (unhide ZL) ?_) | (with_reducible refine wpList_store_row (by with_unfolding_all rfl) 83 _ _ (by with_unfolding_all rfl) w7.heap.size LV (by with_unfolding_all rfl) (by with_unfolding_all rfl) 83 LZ (heap_new w7 _) s8 (unhide SZ) (unhide X8) ?_; rw [setRow_alloc]))
              obtain ⟨g44, hg⟩ : ∃ g44, g44 = w7.heap.size := ⟨_, rfl⟩
              rw [← hg] at O7 ⊢
              clear hg
              generalize w7.alloc (.cells LV 83) = w8 at *
              have K42 := hide ((unhide O7).at g42 (.cells LV 83) (by simp))
              have K44 := hide ((unhide O7).at g44 (.cells LV 83) (by simp))
              have hEE : (E != E) = false := by simp
              have HN' : Hid (PP W P S A S K A w8 (fun _ => False)) := (PP.stay W P _ _ _ _ _).ls _ _ _ (unhide O7).st (fun _ h => h.elim)
              clear O7 ZL SZ X8
              go_wp2_with (first | (with_reducible refine wpList_load_row (by with_unfolding_all rfl) 83 (.tmp 42) (by with_unfolding_all rfl) g42 (by with_unfolding_all rfl) _ _ _ _ (unhide K42) Tryz.underlying83 (by with_unfolding_all rfl) s8 ?_) | (with_reducible refine wpList_load_row (by with_unfolding_all rfl) 83 (.tmp 44) (by with_unfolding_all rfl) g44 (by with_unfolding_all rfl) _ _ _ _ (unhide K44) Tryz.underlying83 (by with_unfolding_all rfl) s8 ?_) | (with_reducible refine wpList_neqA (by with_unfolding_all rfl) 83 _ (.tmp 288) (.tmp 289) (by with_unfolding_all rfl) LV LV (by with_unfolding_all rfl) (by with_unfolding_all rfl) line_guardP true (unhide EQL) ?_))
              go_roundw
              case rel => exact ⟨j + 1, by omega, by go_num, unhide HN'⟩
              case measure => simp [intOf]; omega
            · have hge : ¬ ((j : Int) < (N : Int)) := by omega
              have KF := hide ((PP.stay W P S A S K A).sz _ _ (unhide HH))
              go_wp2_with fail
              go_ret
              exact ⟨rfl, (unhide KF).below (Nat.le_refl _) (fun _ h => h.elim)⟩
      · as_aux_lemma =>
          clear HO
          have hN1024 : N ≤ 1024 := unhide HN2
          have AN := hide ((unhide FI).an)
          have HAN : Hid (A.n ≤ 1024) := by show _ ≤ _; rw [unhide AN]; exact unhide HN2
          have HAM : Hid (A.ok 1000) := ok_mono (unhide FI).am (by omega)
          have HQ : Hid (PP W P S A S K A wr (fun _ => False)) := (PP.stay W P _ _ _ _ _).ls _ _ _ (unhide HP) (fun _ h => h.elim)
          obtain ⟨z, hz⟩ : ∃ z, z = P.z := ⟨_, rfl⟩
          clear FI HP HR
          go_upto_region 46 with fail
          generalize (k : Int) = klast at *
          generalize (n : Int) = nlast at *
          go_wp2_with fail
          go_loopw [41] (fun q wr => ∃ j : Nat, j ≤ N ∧ q = .int .i64 j ∧ PP W P S A S K A wr (fun _ => False)) (fun q _ => N - (intOf q).toNat)
          case atStart => exact ⟨0, by omega, rfl, unhide HQ⟩
          case round =>
            clear HQ
            obtain ⟨j, hj, rfl, hh⟩ := hrel
            have HH := hide hh
            clear hh
            by_cases hlt : j < N
            · have hjN : (j : Int) < (N : Int) := by omega
              have CL := hide (loadL (unhide HH) (unhide HAN) (j : Int))
              have CR := hide (fun (w' : World) G' (h' : PP W P S A S K A w' G') => loadR h' (unhide HAM) (j : Int))
              have s8 := s8_ln (A.hasZ (j : Int))
              have X8 := hide (lnV_one (A.hasZ (j : Int)))
              have EQL := hide (fun (w : World) => equal_ln 9998 (A.hasZ (j : Int)) w)
              have ZL : Hid ((Tryz.prog.info? 83).map (·.zero) = some (some (.agg (lnV fun _ => 0)))) := by show _ = _; kernel_rfl
              have SZ : Hid ((lnV fun _ => 0).size = (lnV (A.hasZ (j : Int))).size) := by show _ = _; rw [lnV_size, lnV_size]
              obtain ⟨LV, hLV⟩ : ∃ LV, LV = lnV (A.hasZ (j : Int)) := ⟨_, rfl⟩
              rw [← hLV] at CL CR s8 X8 EQL SZ
              clear hLV
              generalize (lnV fun _ => 0) = LZ at *
              generalize A.loadE (j : Int) = E at *
              go_wp2_with fail
              refine (unhide CL).mono ?_
              rintro e w5 ⟨rfl, h1, -⟩
              have O5 := hide ((Held.start (PP.stay W P S A S K A) h1).alloc (PP.stay W P S A S K A) (.cells LV 83))
              clear h1 CL HH
              go_upto_region 50 with (first | (with_reducible refine wpList_allocZ (by with_unfolding_all rfl) 83 (by with_unfolding_all rfl) LZ (unhide ZL) ?_) | (with_reducible refine wpList_store_row (by with_unfolding_all rfl) 83 _ _ (by with_unfolding_all rfl) w5.heap.size LV (by with_unfolding_all rfl) (by with_unfolding_all rfl) 83 LZ (heap_new w5 _) s8 (unhide SZ) (unhide X8) ?_; rw [setRow_alloc]))
              obtain ⟨g42, hg⟩ : ∃ g42, g42 = w5.heap.size := ⟨_, rfl⟩
              rw [← hg] at O5 ⊢
              clear hg
              generalize w5.alloc (.cells LV 83) = w6 at *
              go_wp2_with fail
              refine (unhide CR _ _ (unhide O5).st).mono ?_
              rintro e w7 ⟨rfl, h1, h2⟩
              have O7 := hide (((unhide O5).call (St' := PP W P S A S K A) h1 h2).alloc (PP.stay W P S A S K A) (.cells LV 83))
              clear h1 h2 CR O5
              go_upto_region 51 with (first | (with_reducible refine wpList_allocZ (by with_unfolding_all rfl) 83 (by with_unfolding_all rfl) LZ (unhide ZL) ?_) | (with_reducible refine wpList_store_row (by with_unfolding_all rfl) 83 _ _ (by with_unfolding_all rfl) w7.heap.size LV (by with_unfolding_all rfl) (by with_unfolding_all rfl) 83 LZ (heap_new w7 _) s8 (unhide SZ) (unhide X8) ?_; rw [setRow_alloc]))
              obtain ⟨g44, hg⟩ : ∃ g44, g44 = w7.heap.size := ⟨_, rfl⟩
              rw [← hg] at O7 ⊢
              clear hg
              generalize w7.alloc (.cells LV 83) = w8 at *
              have K42 := hide ((unhide O7).at g42 (.cells LV 83) (by simp))
              have K44 := hide ((unhide O7).at g44 (.cells LV 83) (by simp))
              have hEE : (E != E) = false := by simp
              have HN' : Hid (PP W P S A S K A w8 (fun _ => False)) := (PP.stay W P _ _ _ _ _).ls _ _ _ (unhide O7).st (fun _ h => h.elim)
              clear O7 ZL SZ X8
              go_wp2_with (first | (with_reducible refine wpList_load_row (by with_unfolding_all rfl) 83 (.tmp 42) (by with_unfolding_all rfl) g42 (by with_unfolding_all rfl) _ _ _ _ (unhide K42) Tryz.underlying83 (by with_unfolding_all rfl) s8 ?_) | (with_reducible refine wpList_load_row (by with_unfolding_all rfl) 83 (.tmp 44) (by with_unfolding_all rfl) g44 (by with_unfolding_all rfl) _ _ _ _ (unhide K44) Tryz.underlying83 (by with_unfolding_all rfl) s8 ?_) | (with_reducible refine wpList_neqA (by with_unfolding_all rfl) 83 _ (.tmp 288) (.tmp 289) (by with_unfolding_all rfl) LV LV (by with_unfolding_all rfl) (by with_unfolding_all rfl) line_guardP true (unhide EQL) ?_))
              go_roundw
              case rel => exact ⟨j + 1, by omega, by go_num, unhide HN'⟩
              case measure => simp [intOf]; omega
            · have hge : ¬ ((j : Int) < (N : Int)) := by omega
              have KF := hide ((PP.stay W P S A S K A).sz _ _ (unhide HH))
              go_wp2_with fail
              go_ret
              exact ⟨rfl, (unhide KF).below (Nat.le_refl _) (fun _ h => h.elim)⟩

set_option maxRecDepth 100000 in
theorem lifted (os : Os) (started : os.Started) (H : Type) (enc : TypeId × Value → H) :
    ReturnsInHanded {} Tryz.checked os 6 .any (Rows.objectsPlaySpec.pre6 enc Tryz.prog Tryz.f6 Rows.objectsPlayRow.domain false) (Rows.objectsPlaySpec.post enc Tryz.prog Tryz.f6 false true false false) := by
  refine law_frame (C := Tryz.checked) (ts := [22, 102, 3]) (tb := 4) (by kernel_rfl) started (by kernel_rfl) Tryz.func6 Tryz.params6 (by kernel_rfl) Tryz.underlying4 (by kernel_rfl) (by kernel_rfl) rfl ?_
    (ChangeSpec.witness6 (enc := enc) (C := Tryz.checked) false ⟨#[], #[.agg (iv .i64 [0, 0]), .slice none 0 0, .int .i64 0], []⟩ 8 (by kernel_rfl) (by kernel_rfl) (by kernel_rfl) (by kernel_rfl)) ?_
  · intro ds hd
    match ds, hd with
    | [d0, d1, d2], _ => rfl
  · intro W base args ds p hval hA
    obtain ⟨v0, vs0, d0, ds0, p0, q0, hargs, rfl, rfl, h0, r0⟩ := trodAll_cons hA
    obtain ⟨v1, vs1, d1, ds1, p1, q1, rfl, rfl, rfl, h1, r1⟩ := trodAll_cons r0
    obtain ⟨v2, vs2, d2, ds2, p2, q2, rfl, rfl, rfl, h2, r2⟩ := trodAll_cons r1
    obtain ⟨rfl, rfl, rfl⟩ := trodAll_nil r2
    obtain rfl : args = #[v0, v1, v2] := by cases args; simp_all
    obtain ⟨xs, rfl, hX⟩ := open_pairO (hval 0 22 v0 rfl rfl) h0
    obtain ⟨a, n, cap, o, rfl, hO⟩ := open_oops (hval 1 102 v1 rfl rfl) h1
    obtain ⟨fu, rfl, rfl, rfl, wfu⟩ := open_int Tryz.underlying3 (hval 2 3 v2 rfl rfl) h2
    exact walk W xs a n cap o fu hX hO wfu

theorem over : Rows.objectsPlayRow.holds Tryz.pinned (OpenSpec.ofChange Rows.objectsPlaySpec) :=
  OpenClaim.holds_of_wide 6 Tryz.f6 rfl rfl rfl rfl rfl rfl rfl ⟨rfl, rfl, rfl, rfl, rfl⟩ rfl rfl rfl rfl rfl (by kernel_rfl) Tryz.func6 (by kernel_rfl)
    (of_decide_eq_true (by kernel_rfl)) (by unfold Func.isWrapper; first | (rw [if_pos (by decide +kernel)]; kernel_rfl) | (rw [if_neg (by decide +kernel)]; exact ⟨rfl, rfl⟩))
    (fun os started H enc _ => lifted os started H enc)

end Go.Proofs.YtinhnnnehhlceaaGreat.objectsPlay
namespace Go.Proofs.YtinhnnnehhlceaaGreat
theorem objectsPlay_holds : Rows.ObjectsPlaySaid := objectsPlay.over
end Go.Proofs.YtinhnnnehhlceaaGreat
