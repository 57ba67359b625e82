
/-
  revive's read: the store of the directory that a superblock names.
-/
import Derived.Test.YtiafhcgaikapcaaGreatICalls
import Derived.Test.YtiafhcgaikapcaaGreatPkUn
import Derived.Test.YtiafhcgaikapcaaGreatPkTel
import Derived.Laws.CopyRow
import Derived.Deep.Cut
namespace Go.Proofs.YtiafhcgaikapcaaGreat
open Go.ChangeShapes Go.WideShapes Go.ChangeAt Go.RowKit Go.Joins
set_option maxRecDepth 10000
set_option linter.unusedVariables false
set_option linter.unusedSimpArgs false

theorem Held.pair2 {W : World} {St : World → (Nat → Prop) → Prop} {w0 w : World} {G : Nat → Prop} {L : List (Nat × Obj)} (S : Stay W St) (h : Held W St w0 w G L) (ZT TB : Array Value) (T1 : TypeId) (ZD DB : Array Value) (T2 : TypeId) :
    Held W St w0 ((((w.alloc (.cells ZT T1)).alloc (.cells ZD T2)).setRow w.heap.size TB).setRow (w.heap.size + 1) DB) G ((w.heap.size + 1, .cells DB T2 (0, 0)) :: (w.heap.size, .cells TB T1 (0, 0)) :: L) ∧
    ((w.alloc (.cells ZT T1)).alloc (.cells ZD T2)).heap[w.heap.size]? = some (.cells ZT T1 (0, 0)) ∧
    (((w.alloc (.cells ZT T1)).alloc (.cells ZD T2)).setRow w.heap.size TB).heap[w.heap.size + 1]? = some (.cells ZD T2 (0, 0)) ∧
    (w.alloc (.cells ZT T1)).heap.size = w.heap.size + 1 := by
  have e9 : (w.alloc (.cells ZT T1)).heap.size = w.heap.size + 1 := by simp
  have hlt := h.lt
  have O4 := (h.alloc S (.cells ZT T1)).alloc S (.cells ZD T2)
  rw [e9] at O4
  have H8 := O4.at w.heap.size (.cells ZT T1) (by simp)
  have O5 := O4.row S w.heap.size ZT T1 (0, 0) (by simp) TB
  have M9 : ((w.heap.size + 1, Obj.cells ZD T2 (0, 0)) : Nat × Obj) ∈ (w.heap.size, Obj.cells TB T1 (0, 0)) :: ((w.heap.size + 1, Obj.cells ZD T2 (0, 0)) :: (w.heap.size, Obj.cells ZT T1 (0, 0)) :: L).filter (fun p => p.1 != w.heap.size) := List.mem_cons_of_mem _ (List.mem_filter.2 ⟨by simp, by simp⟩)
  have H9 := O5.at (w.heap.size + 1) (.cells ZD T2) M9
  have O6 := O5.row S (w.heap.size + 1) ZD T2 (0, 0) M9 DB
  refine ⟨O6.less S (fun p hp => ?_), H8, H9, e9⟩
  rcases List.mem_cons.1 hp with rfl | hp
  · exact List.mem_cons_self
  · rcases List.mem_cons.1 hp with rfl | hp
    · exact List.mem_cons_of_mem _ (List.mem_filter.2 ⟨List.mem_cons_self, by simp⟩)
    · have := hlt p hp
      refine List.mem_cons_of_mem _ (List.mem_filter.2 ⟨List.mem_cons_of_mem _ (List.mem_filter.2 ⟨by simp [hp], ?_⟩), ?_⟩)
      · simp; omega
      · simp; omega


/-! ### what is found may be -/
theorem find_may {A : Mm} (h : A.findE = 0) : A.on = true ∧ mayS A.findV = true := by
  unfold Mm.findE at h
  by_cases hon : A.on = true
  · rw [if_pos hon] at h
    by_cases hb : A.bestM = true
    · refine ⟨hon, ?_⟩
      unfold Mm.findV
      rw [hon, hb]
      show mayS (bestV _ _) = true
      unfold Mm.bestM bestIs at hb
      unfold bestV
      split
      · rename_i q
        rw [if_pos q] at hb
        have hs : isS (rowOf (A.l 1).has) = true := by
          unfold bestB at q
          rw [Bool.and_eq_true] at q
          exact q.1
        unfold readV
        rw [if_pos hs]
        exact ((isS_iff _).1 hs).1
      · rename_i q
        rw [if_neg q] at hb
        unfold readV
        rw [if_pos hb]
        exact ((isS_iff _).1 hb).1
    · rw [if_neg hb] at h; cases h
  · rw [if_neg hon] at h; cases h
theorem find_bd {A : Mm} (h : A.findE = 0) : (∃ c : Nat, A.cs = (c : Int) ∧ 1 ≤ c ∧ c ≤ 8) ∧ (0 ≤ A.rt ∧ A.rt < 1024) ∧ (0 ≤ A.sq ∧ A.sq ≤ 1099511627776) ∧ A.findV = [A.findV.getD 0 0, A.rt, A.sq, A.cs] := by
  have hm := (mayS_iff _).1 (find_may h).2
  have hl := findV_len A
  refine ⟨⟨A.cs.toNat, ?_, ?_, ?_⟩, ⟨hm.2.2.1, hm.2.2.2.1⟩, ⟨hm.2.2.2.2.1, hm.2.2.2.2.2.1⟩, ?_⟩
  · have := hm.2.2.2.2.2.2.1; show A.findV.getD 3 0 = ((A.findV.getD 3 0).toNat : Int); omega
  · have := hm.2.2.2.2.2.2.1; show 1 ≤ (A.findV.getD 3 0).toNat; omega
  · have := hm.2.2.2.2.2.2.2; show (A.findV.getD 3 0).toNat ≤ 8; omega
  · unfold Mm.rt Mm.sq Mm.cs
    match A.findV, hl with
    | [a, b, c, d], _ => rfl

/-- What a read leaves: a store, or none. -/
def IrPost (W w : World) (m : Nat) (St : Mm → World → (Nat → Prop) → Prop) (A : Mm) (G : Nat → Prop) (e : Ending) (w' : World) : Prop :=
  if rdE A = 0 then ∃ b, e = .returned (.tuple #[.pointer (some ⟨b, 0, none⟩), .int .i64 0]) ∧ SHas W m b St (rdS A) A w' G ∧ Same G w w'
  else Done (St A) w G (.tuple #[.pointer none, .int .i64 (rdE A)]) e w'
theorem wpList_build1 {P : Program} {ops : Array Oper} {rest : List Oper} {o : Oper} {a : Act} {w : World} {Q : Exit → Act → World → Prop} (hg : o.guard = none) (t : TypeId) (i : Nat) (x : Operand) (ho : o.op = .build t #[(i, x)]) (u : Value) (hx : a.eval x = u) (cs : Array Value)
    (hb : P.built t [(i, u)] = some cs) (h : wpList P ops Q rest (a.put o.dst (.agg cs)) w) : wpList P ops Q (o :: rest) a w := by
  subst hx
  exact wpList_build hg t #[(i, x)] ho (by simp [hb]) (by simpa [hb] using h)
theorem built_dir (r : Int) : Tryz.prog.built 67 [(7, .int .i64 r)] = some (dirV fun k => if k = 7 then r else 0) := by kernel_rfl
theorem zero_dirI : (Tryz.prog.info? 67).map (·.zero) = some (some (.agg (dirV fun _ => 0))) := by kernel_rfl
theorem zero_tabI : (Tryz.prog.info? 66).map (·.zero) = some (some (.agg (iv .i64 (zrow 49)))) := by kernel_rfl
theorem zero_7I : (Tryz.prog.info? 95).map (·.zero) = some (some (.agg (iv .i64 zs7))) := by kernel_rfl
theorem tab_tb (A : Mm) : tabV A.tb = iv .i64 (ldT A (A.fr : Int) A.rt) := by
  unfold tabV Mm.tb
  rw [row_en _ 49 (ldT_len _ _ _)]
theorem dir_di (A : Mm) (cur : Array Value) (hc : cur = dirV fun k => if k = 7 then A.rt else 0) : (cur.toList.take 0 ++ (iv .i64 (ldL A (A.fr : Int) A.rt)).toList ++ cur.toList.drop (0 + (iv .i64 (ldL A (A.fr : Int) A.rt)).toList.length)).toArray = dirV A.di := by
  have hl := ldL_len A (A.fr : Int) A.rt
  unfold Mm.di
  generalize ldL A (A.fr : Int) A.rt = l at *
  generalize A.rt = r at *
  subst hc
  match l, hl with
  | [a0, a1, a2, a3, a4, a5, a6], _ => rfl

/-- copy, where its run is known. -/
theorem im_copy {P : Program} (w : World) {o : Oper} {a : Act} {K : Act → World → Prop} {Q : Exit → Act → World → Prop} (x y : Operand) (t t' : TypeId) (ho : o.op = .call { callee := .builtin .copy, args := #[x, y], argTypes := #[t, t'] }) (u v : Value) (hx : a.eval x = u) (hy : a.eval y = v)
    {z : Value} {w' : World} (hr : (Builtin.copy_ #[t, t'] o.type #[u, v]).run P w = .ok z w') (h : K (a.put o.dst z) w') : o.wp P a w K Q := by
  subst hx hy
  simp only [Oper.wp, execOp, ho, resolve, invoke, builtin, Sem.run_bind, Sem.run_pure, Result.andThen_ok, List.map_toArray, List.map_cons, List.map_nil, hr]
  exact h
set_option maxHeartbeats 8000000 in
theorem imread_any {W w : World} {m : Nat} {St : Mm → World → (Nat → Prop) → Prop} {A : Mm} {G : Nat → Prop} (M : MemI W m St) (h : St A w G) (hA : A.ok 800) (hf : A.findE = 0) (g0 : Int) (hv : A.findV = [g0, A.rt, A.sq, A.cs]) :
    Calls Tryz.prog 116 #[.pointer (some ⟨m, 0, none⟩), .agg #[.int .i64 g0, .int .i64 A.rt, .int .i64 A.sq, .int .i64 A.cs]] w (IrPost W w m St A G) := by
  obtain ⟨⟨c, hc, c1, c8⟩, hrt, hsq, _⟩ := find_bd hf
  have HM := hide M
  have T0 := hide (M.stay A)
  have O0 := hide ((Held.start (unhide T0) h).alloc (unhide T0) (.cells #[.int .i64 g0, .int .i64 A.rt, .int .i64 A.sq, .int .i64 A.cs] 49))
  have CF := hide (fun w' : World => from_any c c8 w')
  have CN := hide (fun (w' : World) (G' : Nat → Prop) (h' : St A w' G') => M.lines w' G' A h')
  have hfr : A.fr = fromN c := by unfold Mm.fr; rw [hc, Int.toNat_natCast]
  have hrw : (Lit.int .i64 A.rt).wf = true := by simp [Lit.wf, IntKind.min, IntKind.max, IntKind.signed, IntKind.bits]; omega
  have CD : Hid (∀ (w' : World) (G' : Nat → Prop), St A w' G' → Calls Tryz.prog 46 #[.pointer (some ⟨m, 0, none⟩), .int .i64 (A.fr : Int), .int .i64 A.rt] w' fun e w'' => e = .returned (.tuple #[.agg (iv .i64 (ldT A (A.fr : Int) A.rt)), .agg (iv .i64 (ldL A (A.fr : Int) A.rt)), .int .i64 (ldE A (A.fr : Int) A.rt)]) ∧ Keeps (fun _ => False) w' w'') := fun w' G' h' => M.dir w' G' A h' (ok_mono hA (by omega)) (A.fr : Int) A.rt hrw
  have hn1024 := hA.2.1
  have COF := hide (fun (w' : World) (L : List (Nat × Obj)) (h' : Held W (St A) w w' G L) => sof_any (M.toMemL) h'.1 A.fr A.tb A.di)
  have ER1 : Hid (A.n < A.fr → rdE A = 21) := fun q => if_pos q
  have ER2 : Hid (¬ A.n < A.fr → ldE A (A.fr : Int) A.rt ≠ 0 → rdE A = ldE A (A.fr : Int) A.rt) := fun q1 q2 => (if_neg q1).trans (if_neg q2)
  have ER3 : Hid (¬ A.n < A.fr → ldE A (A.fr : Int) A.rt = 0 → ofB (Fr.new A.fr A.n) A.tb A.di = true → rdE A = 0) := fun q1 q2 q3 => (if_neg q1).trans ((if_pos q2).trans (if_pos q3))
  have ER4 : Hid (¬ A.n < A.fr → ldE A (A.fr : Int) A.rt = 0 → ¬ ofB (Fr.new A.fr A.n) A.tb A.di = true → rdE A = 21) := fun q1 q2 q3 => (if_neg q1).trans ((if_pos q2).trans (if_neg q3))
  have ETB := hide (tab_tb A)
  have EDI := hide (dir_di A)
  have HFR : Hid ((A.fr : Int) ≤ 34) := by show _ ≤ _; rw [hfr]; unfold fromN; omega
  have hllen := ldL_len A (A.fr : Int) A.rt
  have htlen := ldT_len A (A.fr : Int) A.rt
  have HPO : Hid (∀ e w', IrPost W w m St A G e w' = if rdE A = 0 then ∃ b, e = .returned (.tuple #[.pointer (some ⟨b, 0, none⟩), .int .i64 0]) ∧ SHas W m b St (rdS A) A w' G ∧ Same G w w' else Done (St A) w G (.tuple #[.pointer none, .int .i64 (rdE A)]) e w') := fun _ _ => rfl
  have HRS : Hid (rdS A = ofS (Fr.new A.fr A.n) A.tb A.di) := rfl
  have HN1 : Hid ((A.n : Int) ≤ 1024) := by show _ ≤ _; omega
  have HN2 : Hid (A.n ≤ 1024) := hn1024
  rw [← hfr] at CF
  have HCC := hide hc
  rw [hc] at O0 ⊢
  clear h M hA hf hv hrt hsq hrw hfr hn1024 hc
  generalize A.cs = cz at *
  obtain ⟨OB, hOB⟩ : ∃ OB, OB = ofB (Fr.new A.fr A.n) A.tb A.di := ⟨_, rfl⟩
  rw [← hOB] at ER3 ER4
  have HOBE := hide hOB
  clear hOB
  have HT147 : Hid ((Tryz.prog.info? 66).map (·.size) = some (iv .i64 (ldT A (A.fr : Int) A.rt)).size) := s147_of _ htlen
  have HT7 : Hid ((Tryz.prog.info? 95).map (·.size) = some (iv .i64 (ldL A (A.fr : Int) A.rt)).size) := s7_of _ hllen
  have HZ147 : Hid ((iv .i64 (zrow 49)).size = (iv .i64 (ldT A (A.fr : Int) A.rt)).size) := by show _ = _; rw [iv_size, iv_size, htlen, zrow_len]
  have HZ7 : Hid ((iv .i64 zs7).size = (iv .i64 (ldL A (A.fr : Int) A.rt)).size) := by show _ = _; rw [iv_size, iv_size, hllen]; rfl
  have HL7 : Hid ((iv .i64 (ldL A (A.fr : Int) A.rt)).toList.length = 7) := by show _ = _; rw [Array.length_toList, iv_size, hllen]
  have X147 := hide (iv_one .i64 (ldT A (A.fr : Int) A.rt))
  have X7 := hide (iv_one .i64 (ldL A (A.fr : Int) A.rt))
  have SD := hide (s8_dir A.di)
  clear htlen hllen
  generalize tabV A.tb = TBV at *
  generalize iv .i64 (ldT A (A.fr : Int) A.rt) = TV at *
  generalize hDI : dirV A.di = DIV at *
  generalize hLV : iv .i64 (ldL A (A.fr : Int) A.rt) = LV at *
  clear hDI hLV
  generalize ldE A (A.fr : Int) A.rt = LE at *
  generalize rdE A = RE at *
  generalize A.di = di at *
  generalize A.tb = tb at *
  generalize A.sq = sq at *
  generalize A.rt = rt at *
  generalize A.fr = fr at *
  obtain ⟨g3, hg3⟩ : ∃ g, g = w.heap.size := ⟨_, rfl⟩
  rw [← hg3] at O0
  have hF := unhide HFR
  have hN := unhide HN1
  go_enter Tryz.func116, Tryz.ntmps116
  go_upto_region 1 with fail
  rw [← hg3]
  clear hg3
  generalize w.alloc (.cells #[.int .i64 g0, .int .i64 rt, .int .i64 sq, .int .i64 (c : Int)] 49) = w1 at *
  have k1 : w1.cell? ⟨g3, 1, none⟩ = some (.int .i64 rt) := by rw [cell_of_block ((unhide O0).at g3 (.cells #[.int .i64 g0, .int .i64 rt, .int .i64 sq, .int .i64 (c : Int)] 49) (by simp))]; rfl
  have k3 : w1.cell? ⟨g3, 3, none⟩ = some (.int .i64 (c : Int)) := by rw [cell_of_block ((unhide O0).at g3 (.cells #[.int .i64 g0, .int .i64 rt, .int .i64 sq, .int .i64 (c : Int)] 49) (by simp))]; rfl
  go_wp2_with fail
  refine (unhide CF _).mono ?_
  rintro e w2 ⟨rfl, hw2⟩
  subst hw2
  go_wp2_with fail
  refine (unhide CN _ _ (unhide O0).st).mono ?_
  rintro e w2 ⟨rfl, hw2⟩
  subst hw2
  by_cases hn : A.n < fr
  · have ER := hide (unhide ER1 hn)
    have hn2 : (A.n : Int) < (fr : Int) := by omega
    have HP := HPO
    rw [unhide ER] at HP
    clear ER1 ER2 ER3 ER4 HPO
    go_wp2_with fail
    go_ret2
    rw [unhide HP, if_neg (by decide)]
    exact (unhide O0).done (unhide T0) _
  have hn2 : ¬ (A.n : Int) < (fr : Int) := by omega
  go_wp2_with fail
  refine (unhide CD _ _ (unhide O0).st).mono ?_
  rintro e w2 ⟨rfl, hk⟩
  have O1 := hide ((unhide O0).keeps (unhide T0) hk)
  clear hk O0 CD k1 k3 CF CN
  obtain ⟨P1, P2, P3, P4⟩ := (unhide O1).pair2 (unhide T0) (iv .i64 (zrow 49)) TV 66 (iv .i64 zs7) LV 95
  have O2 := hide P1
  have K7 := hide P2
  have K8 := hide P3
  have K9 : Hid ((((w2.alloc (.cells (iv .i64 (zrow 49)) 66)).alloc (.cells (iv .i64 zs7) 95)).setRow w2.heap.size TV).heap[(w2.alloc (.cells (iv .i64 (zrow 49)) 66)).heap.size]? = some (.cells (iv .i64 zs7) 95 (0, 0))) := by show _ = _; rw [P4]; exact P3
  have E9 := hide P4
  have ZT := hide zero_tabI
  have Z7 := hide zero_7I
  generalize iv .i64 (zrow 49) = ZTV at *
  generalize iv .i64 zs7 = Z7V at *
  clear P1 P2 P3 P4
  by_cases hl : LE = 0
  · have E3 := hide (unhide ER3 hn hl)
    have E4 := hide (unhide ER4 hn hl)
    have HRF : Hid (fr ≤ A.n) := by show fr ≤ A.n; omega
    subst hl
    clear ER1 ER2 ER3 ER4 hn
    go_upto_region 5 with (first | (with_reducible refine wpList_allocZ (by with_unfolding_all rfl) 66 (by with_unfolding_all rfl) ZTV (unhide ZT) ?_) | (with_reducible refine wpList_allocZ (by with_unfolding_all rfl) 95 (by with_unfolding_all rfl) Z7V (unhide Z7) ?_) | (with_reducible refine wpList_store_row (by with_unfolding_all rfl) 66 _ _ (by with_unfolding_all rfl) w2.heap.size TV (by with_unfolding_all rfl) (by with_unfolding_all rfl) _ _ (unhide K7) (unhide HT147) (unhide HZ147) (unhide X147) ?_) | (with_reducible refine wpList_store_row (by with_unfolding_all rfl) 95 _ _ (by with_unfolding_all rfl) (w2.heap.size + 1) LV (by with_unfolding_all rfl) (by with_unfolding_all rfl) _ _ (unhide K8) (unhide HT7) (unhide HZ7) (unhide X7) ?_) | (with_reducible refine wpList_store_row (by with_unfolding_all rfl) 95 _ _ (by with_unfolding_all rfl) (w2.alloc (.cells ZTV 66)).heap.size LV (by with_unfolding_all rfl) (by with_unfolding_all rfl) _ _ (unhide K9) (unhide HT7) (unhide HZ7) (unhide X7) ?_))
    try rw [unhide E9]
    clear K7 K8 K9 E9 ZT Z7
    obtain ⟨g7, hg7⟩ : ∃ g, g = w2.heap.size := ⟨_, rfl⟩
    obtain ⟨g8, hg8⟩ : ∃ g, g = g7 + 1 := ⟨_, rfl⟩
    rw [← hg7, ← hg8] at O2 ⊢
    clear hg7 hg8
    generalize (((w2.alloc (.cells ZTV 66)).alloc (.cells Z7V 95)).setRow g7 TV).setRow g8 LV = w4 at *
    have c1 : w4.cell? ⟨g3, 1, none⟩ = some (.int .i64 rt) := by rw [cell_of_block ((unhide O2).at g3 (.cells #[.int .i64 g0, .int .i64 rt, .int .i64 sq, .int .i64 (c : Int)] 49) (by simp))]; rfl
    have BD := hide (built_dir rt)
    have ZD := hide zero_dirI
    have SDD : Hid ((Tryz.prog.info? 67).map (·.size) = some (dirV fun k => if k = 7 then rt else 0).size) := s8_dir _
    have SDZ : Hid ((dirV fun _ => 0).size = (dirV fun k => if k = 7 then rt else 0).size) := by show _ = _; rw [dirV_size, dirV_size]
    have XD := hide (dirV_one fun k => if k = 7 then rt else 0)
    have SD8 : Hid ((dirV fun k => if k = 7 then rt else 0).size = 8) := dirV_size _
    have EDI2 := hide (unhide EDI _ rfl)
    generalize (dirV fun _ => 0) = ZDV at *
    generalize (dirV fun k => if k = 7 then rt else 0) = DV0 at *
    go_upto_region 8 with (first | (with_reducible refine wpList_build1 (by with_unfolding_all rfl) 67 7 _ (by with_unfolding_all rfl) (.int .i64 rt) (by with_unfolding_all rfl) _ (unhide BD) ?_) | (with_reducible refine wpList_allocZ (by with_unfolding_all rfl) 67 (by with_unfolding_all rfl) ZDV (unhide ZD) ?_) | (with_reducible refine wpList_store_row (by with_unfolding_all rfl) 67 _ _ (by with_unfolding_all rfl) w4.heap.size DV0 (by with_unfolding_all rfl) (by with_unfolding_all rfl) 67 ZDV (heap_new w4 _) (unhide SDD) (unhide SDZ) (unhide XD) ?_; rw [setRow_alloc]))
    have O3 := hide (((unhide O2).alloc (unhide T0) (.cells DV0 67)).drew (unhide T0))
    obtain ⟨g10, hg10⟩ : ∃ g, g = w4.heap.size := ⟨_, rfl⟩
    rw [← hg10] at O3 ⊢
    have HN10 : Hid (∀ p ∈ [(g8, Obj.cells LV 95 (0, 0)), (g7, Obj.cells TV 66 (0, 0)), (g3, Obj.cells #[.int .i64 g0, .int .i64 rt, .int .i64 sq, .int .i64 (c : Int)] 49 (0, 0))], p.1 ≠ g10) := by rw [hg10]; exact (unhide O2).fresh
    clear O2 c1 BD ZD SDD SDZ hg10 EDI
    refine wp_region_noPanic ?_
    refine wp_region_held_drew (S := fun _ => True) (by kernel_rfl) trivial (fun hHeld => ?_)
    generalize (w4.alloc (.cells DV0 67)).drew = w5 at *
    refine take_at 0 34 (v := ?_) rfl rfl (by kernel_rfl) (by kernel_rfl) (by kernel_rfl) (Or.inl ⟨by rfl, ?_⟩) hHeld ?_
    rotate_left
    · intro w hSw; go_simp; with_reducible rfl
    simp only [Act.put, List.setIfInBounds_toArray, List.set_cons_zero, List.set_cons_succ]
    refine take_at 1 35 (v := ?_) rfl rfl (by kernel_rfl) (by kernel_rfl) (by kernel_rfl) (Or.inl ⟨by rfl, ?_⟩) hHeld ?_
    rotate_left
    · intro w hSw; go_simp; with_reducible rfl
    simp only [Act.put, List.setIfInBounds_toArray, List.set_cons_zero, List.set_cons_succ]
    have KD := (unhide O3).at g10 (.cells DV0 67) (by simp)
    have KL := (unhide O3).at g8 (.cells LV 95) (by simp)
    have hcopy := fun ty => run_copy_row (P := Tryz.prog) w5 85 85 ty 3 g10 0 7 8 ⟨g8, 0, none⟩ 7 7 DV0 67 LV.toList Tryz.underlying85 (by kernel_rfl) KD (by rw [unhide HL7]; rfl) (fun j v hv => by rw [Addr.add_mid, Nat.zero_add, cell_of_block KL, ← Array.getElem?_toList]; exact hv) (by rw [unhide HL7, unhide SD8]; decide) (fun v hv => by have := unhide X7; rw [Array.all_eq_true] at this; obtain ⟨i, hi, rfl⟩ := List.getElem_of_mem hv; exact this i (by simpa using hi))
    rw [unhide EDI2] at hcopy
    have O4 := hide ((unhide O3).rowHd (unhide T0) (unhide HN10) DIV)
    refine wpAnyH_ready (rs := [2]) (by kernel_rfl) (by simp) ?_
    refine AllReadyH.cons rfl (fun K hK => ?_) AllReadyH.nil
    refine (if_pos (by rfl)).mpr ?_
    refine im_copy w5 (.tmp 34) (.tmp 35) 85 85 rfl _ _ rfl rfl (hcopy _) ?_
    refine hK.out _ _ trivial (fun hNew => ?_)
    clear hK K hHeld hNew O3 hcopy EDI2 HN10 KD KL
    generalize w5.setRow g10 DIV = w6 at *
    refine wpAnyH_done (by kernel_rfl) ?_ _
    refine NoPanic.normal ?_
    have KT := hide ((unhide O4).at g7 (.cells TV 66) (by simp))
    have KD := hide ((unhide O4).at g10 (.cells DIV 67) (by simp))
    have CO := hide (unhide COF _ _ (unhide O4) (unhide HRF) (unhide HN2))
    rw [unhide ETB] at CO
    go_wp2_with (first | (with_reducible refine wpList_load_row (by with_unfolding_all rfl) 66 _ (by with_unfolding_all rfl) g7 (by with_unfolding_all rfl) _ _ _ _ (unhide KT) Tryz.underlying66 (by with_unfolding_all rfl) (unhide HT147) ?_) | (with_reducible refine wpList_load_row (by with_unfolding_all rfl) 67 _ (by with_unfolding_all rfl) g10 (by with_unfolding_all rfl) _ _ _ _ (unhide KD) Tryz.underlying67 (by with_unfolding_all rfl) (unhide SD) ?_))
    refine (unhide CO).mono ?_
    intro e w7 hq
    unfold OfPost at hq
    rw [← unhide HOBE] at hq
    cases OB with
    | true =>
      rw [if_pos rfl] at hq
      obtain ⟨b, rfl, hs, hsm⟩ := hq
      have HSS := hide hs
      have HSM := hide hsm
      have HP := HPO
      rw [unhide E3 rfl] at HP
      clear hs hsm KT KD CO HPO
      go_wp2_with fail
      go_ret2
      rw [unhide HP, if_pos trivial, unhide HRS]
      exact ⟨b, rfl, (SHas.stay (unhide HM).toMemL b _ _).ls _ _ _ (unhide HSS) (fun k hk => Or.inl hk), fun k hk => (unhide HSM k (Or.inl hk)).trans ((unhide O4).2.2 k hk)⟩
    | false =>
      rw [if_neg (by decide)] at hq
      obtain ⟨rfl, hs, hsm⟩ := hq
      have O5 := hide ((unhide O4).call (St' := St A) hs hsm)
      have HP := HPO
      rw [unhide E4 (by decide)] at HP
      clear hs hsm KT KD CO HPO
      go_wp2_with fail
      go_ret2
      rw [unhide HP, if_neg (by decide)]
      exact (unhide O5).done (unhide T0) _
  · have E2 := hide (unhide ER2 hn hl)
    have HL := hide hl
    have hb1 : (LE == 0) = false := by simpa using hl
    have hb2 : (LE != 0) = true := by simpa using hl
    clear ER1 ER2 ER3 ER4 hn hl
    go_upto_region 5 with (first | (with_reducible refine wpList_allocZ (by with_unfolding_all rfl) 66 (by with_unfolding_all rfl) ZTV (unhide ZT) ?_) | (with_reducible refine wpList_allocZ (by with_unfolding_all rfl) 95 (by with_unfolding_all rfl) Z7V (unhide Z7) ?_) | (with_reducible refine wpList_store_row (by with_unfolding_all rfl) 66 _ _ (by with_unfolding_all rfl) w2.heap.size TV (by with_unfolding_all rfl) (by with_unfolding_all rfl) _ _ (unhide K7) (unhide HT147) (unhide HZ147) (unhide X147) ?_) | (with_reducible refine wpList_store_row (by with_unfolding_all rfl) 95 _ _ (by with_unfolding_all rfl) (w2.heap.size + 1) LV (by with_unfolding_all rfl) (by with_unfolding_all rfl) _ _ (unhide K8) (unhide HT7) (unhide HZ7) (unhide X7) ?_) | (with_reducible refine wpList_store_row (by with_unfolding_all rfl) 95 _ _ (by with_unfolding_all rfl) (w2.alloc (.cells ZTV 66)).heap.size LV (by with_unfolding_all rfl) (by with_unfolding_all rfl) _ _ (unhide K9) (unhide HT7) (unhide HZ7) (unhide X7) ?_))
    try rw [unhide E9]
    clear K7 K8 K9 E9 ZT Z7
    obtain ⟨g7, hg7⟩ : ∃ g, g = w2.heap.size := ⟨_, rfl⟩
    obtain ⟨g8, hg8⟩ : ∃ g, g = g7 + 1 := ⟨_, rfl⟩
    rw [← hg7, ← hg8] at O2 ⊢
    clear hg7 hg8
    generalize (((w2.alloc (.cells ZTV 66)).alloc (.cells Z7V 95)).setRow g7 TV).setRow g8 LV = w4 at *
    have HP := HPO
    rw [unhide E2] at HP
    clear HPO
    go_wp2_with fail
    go_ret2
    rw [unhide HP, if_neg (unhide HL)]
    exact (unhide O2).done (unhide T0) _

end Go.Proofs.YtiafhcgaikapcaaGreat
