
/-
  The calls among the arguments of steadfastlaw11's statements; objects and tables compared.
-/
import Derived.Test.YtinhnnnehhlceaaZShown
import Derived.Test.YtinhnnnehhlceaaPkIv
import Derived.Deep.Slices
namespace Go.Proofs.Ytinhnnnehhlceaa
open Go.ChangeShapes Go.WideShapes Go.ChangeAt Go.RowKit Go.Joins Go.Deep
set_option maxRecDepth 10000
set_option linter.unusedVariables false
set_option linter.unusedSimpArgs false

theorem zoop_of_trod {H : Type} {enc : TypeId × Value → H} {W : World} {fuel : Nat} {cs : List Value} {x : DataW H × List MemPlace} (h : DataW.trod enc Try.prog W 0 (fun _ => true) true fuel 32 cs = some x) (hl : cs.length = 4) :
    ∃ p : OOp, cs = p.cells ∧ p.fits := by
  obtain ⟨xs, k, hk, hxy, hcl, hxl, hf⟩ := DataW.trod_struct Try.underlying32 h
  match cs, hl with
  | [c0, c1, c2, c3], _ =>
    have hlen : xs.length = 4 := by simpa using hxl
    match xs, hlen with
    | [y0, y1, y2, y3], _ =>
      have k1 : Try.prog.cellsOf 3 = 1 := by kernel_rfl
      have k2 : Try.prog.cellsOf 30 = 1 := by kernel_rfl
      have g0 := hf 0 _ rfl
      have g1 := hf 1 _ rfl
      have g2 := hf 2 _ rfl
      have g3 := hf 3 _ rfl
      simp [k1, k2] at g0 g1 g2 g3
      obtain ⟨z0, e0, _, w0⟩ := DataW.trod_int Try.underlying3 g0
      obtain ⟨z1, e1, _, w1⟩ := DataW.trod_int Try.underlying3 g1
      obtain ⟨z2, e2, _, w2⟩ := DataW.trod_int Try.underlying3 g2
      obtain ⟨z3, e3, _, w3⟩ := DataW.trod_int Try.underlying30 g3
      simp at e0 e1 e2 e3
      subst e0 e1 e2 e3
      exact ⟨⟨z0, z1, z2, z3⟩, rfl, in64_wf w0, in64_wf w1, in64_wf w2, inU_wf w3⟩

theorem open_zops {H : Type} {enc : TypeId × Value → H} {W : World} {r : Reach} {b0 : Nat} {v : Value} {d : DataW H} {p : List MemPlace} (hv : Value.okWide Try.prog W r b0 22 v)
    (h : DataW.Trod enc Try.prog W 0 (fun _ => true) true 22 v d p) : ∃ (a : Option Addr) (n cap : Nat) (o : Nat → OOp), v = .slice a n cap ∧ OOpsAt W a n cap o := by
  obtain ⟨a, len, cap, rfl⟩ := okWide_slice Try.underlying22 hv
  obtain ⟨fuel, hf⟩ := h
  have k2 : Try.prog.cellsOf 32 = 4 := by kernel_rfl
  rcases open_slice Try.underlying22 hf with ⟨hcs, _⟩ | ⟨x, l, c, m, n, D, Pl, hcs, hb, hl, hm, hmm, _, hx⟩
  · simp [Value.cells] at hcs
    obtain ⟨rfl, rfl, rfl⟩ := hcs
    exact ⟨none, 0, 0, default, rfl, by decide, Or.inl rfl⟩
  · simp [Value.cells] at hcs
    obtain ⟨rfl, rfl, rfl⟩ := hcs
    rw [k2] at hx
    have hlm : len ≤ m := by rw [hmm]; simp; exact hl
    unfold maxLen at hm
    obtain ⟨o, ho⟩ := choose_lt (α := OOp) (n := len) (p := fun i q => (∀ j, j < 4 → W.cell? (x.add (i * 4 + j)) = q.cells[j]?) ∧ q.fits) (fun i hi => by
      obtain ⟨cs', h1, h2⟩ := hx i (by omega)
      obtain ⟨_, hlen, hcell⟩ := World.cells?_some h1
      obtain ⟨q, rfl, hq⟩ := zoop_of_trod h2 hlen
      refine ⟨q, fun j hj => ?_, hq⟩
      have := hcell j hj
      rw [add_add] at this
      exact this)
    refine ⟨some x, len, cap, o, rfl, by omega, ?_⟩
    by_cases h0 : len = 0
    · exact Or.inl h0
    · right
      obtain ⟨b, off, spot⟩ := x
      have hc0 := (ho 0 (by omega)).1 0 (by omega)
      have hspot : spot = none := by
        have : W.cell? ((⟨b, off, spot⟩ : Addr).add 0) = some (.int .i64 (o 0).kind) := hc0
        simpa [Addr.add] using World.cell?_spot this
      subst hspot
      refine ⟨b, off, rfl, fun i hi => ⟨fun j v hv => ?_, (ho i hi).2⟩⟩
      have hj : j < 4 := by
        rcases Nat.lt_or_ge j 4 with h' | h'
        · exact h'
        · rw [List.getElem?_eq_none (by simpa [OOp.cells] using h')] at hv; cases hv
      have := (ho i hi).1 j hj
      rw [Addr.add_mid] at this
      rw [show off + i * 4 + j = off + (i * 4 + j) by omega, this]
      exact hv

theorem zob_fields : ((Try.prog.fieldsOf 56).toList.map fun f => (decide (f.name = "_"), f.type, f.offset)) = [(false, 3, 0), (false, 3, 1), (false, 54, 2)] := by kernel_rfl
theorem zob_guard : Try.prog.eqGuardType Try.prog.depth 56 = false := by kernel_rfl
theorem zln_iv (f : Nat → Int) : lnV f = iv .u64 ((List.range 8).map f) := by
  refine Array.ext_getElem? fun i => ?_
  by_cases h : i < 8
  · rw [lnV_get f i h, ← Array.getElem?_toList]
    simp [iv, h]
  · rw [Array.getElem?_eq_none (by rw [lnV_size]; omega), Array.getElem?_eq_none (by rw [iv_size]; simp; omega)]
theorem zrun_part_ln (w : World) (k v : Int) (f : Nat → Int) : (part 54 (obV k v f) 2).run Try.prog w = .ok (.agg (lnV f)) w := by
  have hagg : (isAgg 54).run Try.prog w = .ok true w := by
    unfold isAgg
    rw [Sem.run_bind, run_underlying Try.underlying54 w]
    simp
  have hs : (sizeOf 54).run Try.prog w = .ok 8 w := run_sizeOf w 54 8 (by kernel_rfl)
  have he : (obV k v f).extract 2 (2 + 8) = lnV f := by
    unfold obV
    refine Array.ext_getElem? fun i => ?_
    rw [Array.getElem?_extract]
    by_cases h : i < 8
    · rw [if_pos (by rw [Array.size_append, lnV_size]; simp; omega), Array.getElem?_append_right (by simp)]
      simp
    · rw [if_neg (by rw [Array.size_append, lnV_size]; simp; omega), Array.getElem?_eq_none (by rw [lnV_size]; omega)]
  simp [part, Sem.run_bind, hagg, hs, he]
theorem zequal_ln (d : Nat) (f : Nat → Int) (w : World) : (Op.equalIn (d + 2) 54 (.agg (lnV f)) (.agg (lnV f))).run Try.prog w = .ok true w := by
  rw [zln_iv]
  have := run_equalIn_ints w d 54 30 .u64 8 Try.underlying54 Try.underlying30 (by kernel_rfl) ((List.range 8).map f) ((List.range 8).map f) (by simp) (by simp)
  rw [decide_eq_true rfl] at this
  exact this
theorem zob_0 (k v : Int) (f : Nat → Int) : (obV k v f)[0]? = some (.int .i64 k) := by unfold obV; rw [Array.getElem?_append_left (by simp)]; rfl
theorem zob_1 (k v : Int) (f : Nat → Int) : (obV k v f)[1]? = some (.int .i64 v) := by unfold obV; rw [Array.getElem?_append_left (by simp)]; rfl
theorem zequal_ob (k v : Int) (f : Nat → Int) (w : World) : (Op.equalIn 10000 56 (.agg (obV k v f)) (.agg (obV k v f))).run Try.prog w = .ok true w := by
  rw [run_equalIn_struct w 9999 56 _ _ (by kernel_rfl) (by kernel_rfl)]
  have hf := zob_fields
  generalize (Try.prog.fieldsOf 56).toList = fs at hf
  have hl : fs.length = 3 := by have := congrArg List.length hf; simpa using this
  match fs, hl, hf with
  | [f0, f1, f2], _, hf =>
    simp only [List.map_cons, List.map_nil, List.cons.injEq, Prod.mk.injEq, decide_eq_false_iff_not, and_true] at hf
    obtain ⟨⟨a0, b0, c0⟩, ⟨a1, b1, c1⟩, ⟨a2, b2, c2⟩⟩ := hf
    have e : (k == k && (v == v && true)) = true := by simp
    rw [← e]
    refine run_eqField w 9998 _ _ f0 _ .i64 k k a0 (by rw [b0]; exact Try.underlying3) (by rw [c0]; exact zob_0 _ _ _) (by rw [c0]; exact zob_0 _ _ _) _ ?_
    refine run_eqField w 9998 _ _ f1 _ .i64 v v a1 (by rw [b1]; exact Try.underlying3) (by rw [c1]; exact zob_1 _ _ _) (by rw [c1]; exact zob_1 _ _ _) _ ?_
    rw [Op.eqFields, if_pos a2]
    simp only [b2, c2, Sem.run_bind, zrun_part_ln, Result.andThen_ok, zequal_ln]
    simp [Op.eqFields]

theorem ztab_guard : Try.prog.eqGuardType Try.prog.depth 41 = false := by kernel_rfl
theorem zequal_tab (f : Nat → En) (w : World) : (Op.equalIn 10000 41 (.agg (tabV f)) (.agg (tabV f))).run Try.prog w = .ok true w := by
  unfold tabV; rw [equal_rows 41 49 Try.underlying41 _ _ (rowE_len _ _) (rowE_len _ _)]; simp
theorem zdir_guard : Try.prog.eqGuardType Try.prog.depth 43 = false := by kernel_rfl
theorem zequal_dir (d : Nat → Int) (w : World) : (Op.equalIn 10000 43 (.agg (dirV d)) (.agg (dirV d))).run Try.prog w = .ok true w := by
  have := run_equalIn_ints w 9998 43 3 .i64 8 Try.underlying43 Try.underlying3 (by kernel_rfl) (dirTo8 d) (dirTo8 d) (by simp [dirTo8]) (by simp [dirTo8])
  rw [decide_eq_true rfl] at this
  exact this

/-! ### calls of the store beside a worker -/
section
variable {W w : World} {m b x : Nat} {St : Mm → World → (Nat → Prop) → Prop} {S S' : Sto} {A A' : Mm} {K : Wk} {G : Nat → Prop}
theorem WHas.call {P : Program} {f : FuncId} {args : Array Value} {v : Value} (h : WHas W m b x St S A K w G) (hc : ∀ G', SHas W m b St S A w G' → Calls P f args w (Done (SHas W m b St S' A') w G' v)) : Calls P f args w (Done (WHas W m b x St S' A' K) w G v) := by
  obtain ⟨sl, h⟩ := h
  exact (hc _ h.st).mono fun e w' hd => ⟨(h.lift hd).1, ⟨sl, (h.lift hd).2.1⟩, (h.lift hd).2.2⟩
theorem WHas.rep (h : WHas W m b x St S A K w G) : SRep m S w b := by obtain ⟨sl, h⟩ := h; exact h.st.rep
theorem WHas.left (h : WHas W m b x St S A K w G) : Calls Try.prog 14 #[.pointer (some ⟨x, 0, none⟩)] w fun e w' => e = .returned (.int .i64 (K.l.length : Int)) ∧ w' = w := by
  obtain ⟨sl, h⟩ := h
  exact wleft_any h
theorem WHas.super (M : MemL W m St) (h : WHas W m b x St S A K w G) (hb : K.b.length = 4) : Calls Try.prog 18 #[.pointer (some ⟨x, 0, none⟩)] w fun e w' => e = .returned (.tuple #[.agg (iv .i64 K.b), .int .i64 K.sl]) ∧ Below w.heap.size w w' := by
  obtain ⟨sl, h⟩ := h
  exact wsuper_any M h hb
end

/-! ### changes -/
theorem chM_ok {S : Sto} {A : Mm} {B : Nat} (h : A.ok B) (p : OOp) (hp : InU p.v) : (chM S A p).ok (B + 8) := by
  unfold chM; split
  · exact setM_ok h _ _ _ hp
  · split
    · exact makeM_ok h _
    · exact ok_mono h (by omega)
theorem chM_n (S : Sto) (A : Mm) (p : OOp) : (chM S A p).n = A.n := by
  unfold chM; split
  · exact setM_n _ _ _ _ _
  · split
    · exact makeM_n _ _ _
    · rfl
theorem calm_ch {S : Sto} {A : Mm} (h : Inv S) (hc : Calm A) (hN : S.F.hi ≤ A.n) (p : OOp) : Calm (chM S A p) := by
  unfold chM; split
  · exact (keep_set h hc hN _ _ _).1
  · split
    · exact (keep_make h hc hN _).1
    · exact hc
/-- What stands behind some changes ahead of a checkpoint. -/
structure Chd (N : Nat) (S : Sto) (A : Mm) (i : Nat) : Prop where
  good : Good N S
  calm : Calm A
  n : A.n = N
  ok : A.ok (8 * i)
  is : S.is = false
  left : (sS 12 N).F.left ≤ S.F.left + i
  b : S.b = tblF 12
  d : S.d = dirF
theorem Chd.start (N : Nat) (h1 : 64 ≤ N) (h2 : N ≤ 1024) : Chd N (sS 12 N) (iA 12 N) 0 :=
  ⟨good_start 12 N (by decide) h1 h2, calm_new _ _, rfl, iA_ok 12 N h1 h2, rfl, Nat.le_add_right _ _, rfl, rfl⟩
theorem Chd.ch {N : Nat} {S : Sto} {A : Mm} {i : Nat} (h : Chd N S A i) (p : OOp) (hp : InU p.v) : Chd N (chS S A p) (chM S A p) (i + 1) := by
  obtain ⟨f1, f2, f3, f4⟩ := fixed_ch S A p
  have hl := left_ch S A p
  have := h.left
  exact ⟨h.good.ch A p, calm_ch h.good.inv h.calm (by rw [h.good.lh.2, h.n]; exact Nat.le_refl _) p, (chM_n _ _ _).trans h.n, ok_mono (chM_ok h.ok p hp) (by omega), f4.trans h.is, by omega, f1.trans h.b, f2.trans h.d⟩
/-- What Get tells, where table and lines are the same. -/
theorem get_same {N : Nat} {S0 : Sto} {A0 : Mm} {S : Sto} {A : Mm} (h : Cm N S0 A0 S A) (g0 : Good N S0) (hc0 : Calm A0) (hn0 : A0.n = N) (i : Nat) : getT S A (i : Int) = getT S0 A0 (i : Int) := by
  have hf : S.findE (i : Int) = S0.findE (i : Int) := by unfold Sto.findE; rw [h.w]
  have hl : S.line (i : Int) = S0.line (i : Int) := by unfold Sto.line; rw [h.w]
  by_cases c : S0.findE (i : Int) = 0
  · obtain ⟨z0, z1, hk⟩ := findE_ok c
    rw [Int.toNat_natCast] at hk
    have hi : i < 49 := by omega
    have ht := g0.inv.tw i hi hk
    have hz : A0.isZ (S0.line (i : Int)) := isZ_isF (by rw [g0.lh.2, hn0]; exact Nat.le_refl _) (by unfold Sto.line; rw [Int.toNat_natCast]; exact ht.1)
    have hz2 : A.isZ (S0.line (i : Int)) := by unfold Mm.isZ at hz ⊢; rw [h.n, ← hn0]; exact hz
    have e1 : S.getE A (i : Int) = 0 := by unfold Sto.getE; rw [if_pos (hf.trans c), hl]; exact calm_loadE h.calm hz2
    have e2 : S0.getE A0 (i : Int) = 0 := by unfold Sto.getE; rw [if_pos c]; exact calm_loadE hc0 hz
    have hh : A.hasZ (S0.line (i : Int)) = A0.hasZ (S0.line (i : Int)) := by
      unfold Sto.line
      rw [Int.toNat_natCast]
      exact h.has i hi hk
    unfold getT Sto.getV
    rw [e1, e2, if_pos rfl, if_pos rfl, hl, hh, h.w]
  · have e1 : S.getE A (i : Int) = S.findE (i : Int) := by unfold Sto.getE; rw [if_neg (by rw [hf]; exact c)]
    have e2 : S0.getE A0 (i : Int) = S0.findE (i : Int) := by unfold Sto.getE; rw [if_neg c]
    unfold getT Sto.getV
    rw [e1, e2, hf, if_neg c, if_neg c]

end Go.Proofs.Ytinhnnnehhlceaa
