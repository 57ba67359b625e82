
/-
  A checkpoint on a memory whose power stays on, line by line, from its beginning to the image and the superblock that it leaves. No program.
-/
import Derived.Test.YtiafhcgaikapcaaGreatZKept
import Derived.Test.YtiafhcgaikapcaaGreatPkZd
import Derived.Test.YtiafhcgaikapcaaGreatSLastMath
namespace Go.Proofs.YtiafhcgaikapcaaGreat
set_option linter.unusedVariables false
set_option linter.unusedSimpArgs false

def zeroF : Nat → Int := fun _ => 0
theorem LHs.row {L : Ln} {l : List Int} (hl : l.length = 8) (h : LHs L (listF l)) : rowOf L.has = l := by
  refine list_ext0 (n := 8) (rowOf_len _) hl fun m hm => ?_
  rw [rowOf_get _ _ hm]
  exact h m hm
theorem write_su {A : Mm} {s : List Int} (ht : (A.l 1).t = []) (hn : 64 ≤ A.n) (hm : mayS s = true) (hE : A.writeE 0 1 s = 0) : LSu ((A.writeZ 0 1 s).l 1) (listF (lineS s)) := by
  have hok : okW 1 s = true := by simp [okW, hm]
  have hV : lineV s = lineS s := by simp [lineV, hm]
  obtain ⟨m, h1, h2, h3⟩ := puts_inv A 1 (lineS s) ht 8 (Nat.le_refl _)
  unfold Mm.writeE at hE
  unfold Mm.writeZ
  rw [if_pos hok, hV, show (1 : Int).toNat = 1 from rfl] at hE ⊢
  generalize A.puts 1 (lineS s) 8 = P at *
  by_cases hon : P.on = true
  · rw [if_pos hon] at hE ⊢
    have hm9 := h3 hon
    subst hm9
    have hP : LHs (P.l 1) (listF (lineS s)) := fun j hj => by
      unfold Ln.has
      rw [h2.t, h2.s, stW_take _ 8 8 (Nat.le_refl _), run_stW _ _ _ _ (Nat.le_refl _), if_pos hj]
      rfl
    by_cases hf : P.flushE 0 1 = 0
    · rw [if_pos hf] at hE ⊢
      have e1 := flushZ_done hf
      rw [show (1 : Int).toNat = 1 from rfl] at e1
      rw [fenceZ_done hE 1, e1]
      exact settle_fl (flush_fl hP)
    · rw [if_neg hf] at hE; exact absurd hE hf
  · rw [if_neg hon] at hE; cases hE

/-! ### lines below the frames -/
theorem low_ne {F : Fr} (hlo : F.lo = 10) (ha : F.allocE = 0) {y : Nat} (hy : y < 10) : y ≠ F.allocV.toNat := by
  have h := (isF_new ha).1
  omega
theorem ch_low {N : Nat} {S : Sto} {A : Mm} (g : Good N S) {y : Nat} (hy : y < 10) (p : OOp) : (chM S A p).l y = A.l y := by
  have hlay : ∀ l : Nat → Int, (S.layM A l).l y = A.l y := fun l => by
    unfold Sto.layM
    split
    · rename_i ha; exact layP_other _ _ _ _ (low_ne g.lh.1 ha hy) 8
    · rfl
  unfold chM
  split
  · unfold Sto.setM
    split
    · rename_i c
      have hf := findE_ok c.2
      split
      · refine storeZ_other _ _ _ _ _ fun e => ?_
        have ht := (g.inv.tw ((kindN p.id 20 : Nat) : Int).toNat (by omega) hf.2.2).1
        have h2 := ht.1
        have h4 := g.lh.1
        have h3 : S.line ((kindN p.id 20 : Nat) : Int) = (S.w ((kindN p.id 20 : Nat) : Int).toNat).l := rfl
        omega
      · split
        · exact hlay _
        · rfl
    · rfl
  · split
    · unfold Sto.makeM
      split
      · exact hlay _
      · rfl
    · rfl
theorem su_flush {L : Ln} {c : Nat → Int} (h : LSu L c) : LSu (L.flush 0) c := ⟨h.1, h.2⟩
theorem do_low {N : Nat} {S : Sto} {A : Mm} {K : Wk} {p : Nat × Int} {y : Nat} {c : Nat → Int} (g : Good N S) (hy : y < 10) (hne : p.1 = 5 → y ≠ (1 - K.sl).toNat) (h5 : p.1 ≠ 5 → p.1 = 1 ∨ p.1 = 2 ∨ p.1 = 3 ∨ p.1 = 4) (h : LSu (A.l y) c) : LSu ((K.doM S A p).l y) c := by
  unfold Wk.doM
  split
  · rcases flushZ_l A p.2 y with e | e
    · rw [e]; exact h
    · rw [e.2]; exact su_flush h
  · split
    · rw [putM_other _ fun ha => low_ne g.lh.1 ha hy]; exact h
    · split
      · rcases fenceZ_l A y with e | e <;> rw [e]
        · exact h
        · exact settle_su h _
      · rcases writeZ_l A (1 - K.sl) K.next y (hne (by by_cases q : p.1 = 5; exact q; have := h5 q; omega)) with e | e <;> rw [e]
        · exact h
        · exact settle_su h _

/-! ### the base, while it is changed ahead of the checkpoint -/
structure Bs (bt : Nat → En) (bd : Nat → Int) (A : Mm) : Prop where
  bl : ∀ k, k < 7 → LSu (A.l (bd k).toNat) (listF (leafS (partT (rowE 49 bt) k)))
  br : LSu (A.l (bd 7).toNat) (listF (rootS (tab7 bd)))
  bo : ∀ i, i < 49 → (bt i).k ≠ 0 → (A.l (bt i).l.toNat).t = []
  s0 : LSu (A.l 0) zeroF
  s1 : LSu (A.l 1) zeroF
  dd : ∀ i j, i < 8 → j < 8 → i ≠ j → bd i ≠ bd j
theorem Bs.ch {N : Nat} {S : Sto} {A : Mm} {bt : Nat → En} {bd : Nat → Int} (h : Bs bt bd A) (g : Good N S) (hb : S.b = bt) (hd : S.d = bd) (p : OOp) : Bs bt bd (chM S A p) := by
  have od : ∀ i, i < 8 → (chM S A p).l (bd i).toNat = A.l (bd i).toNat := fun i hi => by
    subst hd
    exact ch_other g ⟨g.inv.td i hi, Or.inr fun j hj hk => g.inv.dw i j hi hj hk⟩ p
  refine ⟨fun k hk => by rw [od k (by omega)]; exact h.bl k hk, by rw [od 7 (by decide)]; exact h.br, fun i hi hk => ?_, by rw [ch_low g (by decide)]; exact h.s0, by rw [ch_low g (by decide)]; exact h.s1, h.dd⟩
  subst hb
  rw [ch_other g ⟨g.inv.tb i hi hk, Or.inl (Or.inl ((hasB_iff _ _).2 ⟨i, hi, hk, rfl⟩))⟩ p]
  exact h.bo i hi hk
theorem mayX_12 : ∀ k, k < 7 → mayX (partT (rowE 49 (tblF 12)) k) = true := by decide +kernel
theorem mayT_0 : mayT (tab7 dirF) = true := by decide +kernel
theorem Bs.start (N : Nat) : Bs (tblF 12) dirF (iA 12 N) := by
  have hs : ∀ y j, ((iA 12 N).l y).s j = sI 12 y j := fun y j => rfl
  refine ⟨fun k hk => ⟨rfl, fun j hj => ?_⟩, ⟨rfl, fun j hj => ?_⟩, fun i hi hk => rfl, ⟨rfl, fun j hj => ?_⟩, ⟨rfl, fun j hj => ?_⟩, fun i j hi hj hij => ?_⟩
  · rw [hs]
    have e : (dirF k).toNat = 10 + k := by unfold dirF; omega
    rw [e]
    unfold sI
    rw [if_pos ⟨by omega, by omega⟩, show 10 + k - 10 = k by omega]
    unfold lfI leafKV leafV
    rw [if_pos ⟨by omega, by omega⟩, Int.toNat_natCast, if_pos (mayX_12 k hk)]
    rfl
  · rw [hs]
    have e : (dirF 7).toNat = 17 := rfl
    rw [e]
    unfold sI
    rw [if_neg (by decide), if_pos rfl]
    unfold rtI rootV
    rw [if_pos mayT_0]
    rfl
  · rw [hs]; unfold sI; rw [if_neg (by decide), if_neg (by decide)]; rfl
  · rw [hs]; unfold sI; rw [if_neg (by decide), if_neg (by decide)]; rfl
  · unfold dirF; omega

/-! ### under way -/
def fives (l : List (Nat × Int)) : Nat := l.countP fun p => p.1 == 5
def wt (l : List (Nat × Int)) : Nat := l.length + 8 * l.countP isPut + 10 * fives l
theorem wt_cons (p : Nat × Int) (r : List (Nat × Int)) : wt (p :: r) = wt r + (1 + (if isPut p = true then 8 else 0) + (if p.1 = 5 then 10 else 0)) := by
  unfold wt fives
  rw [List.countP_cons, List.countP_cons, List.length_cons]
  have e : (if (p.1 == 5) = true then 1 else 0) = (if p.1 = 5 then 1 else 0) := by
    by_cases h : p.1 = 5
    · rw [if_pos (by rw [h]; rfl), if_pos h]
    · rw [if_neg (by simpa using h), if_neg h]
  rw [e]
  split <;> split <;> omega
theorem fives_steps (mk bt : Nat → En) : fives (stepsOf mk bt) ≤ 1 := by
  unfold fives
  rw [stepsOf_last, List.countP_append]
  have h : (firsts mk bt).countP (fun p => p.1 == 5) = 0 := by
    rw [List.countP_eq_zero]
    intro p hp
    have := firsts_no5 mk bt p hp
    simpa using this
  rw [h]
  exact Nat.le_refl 1
theorem wt_steps (mk bt : Nat → En) : wt (stepsOf mk bt) ≤ 133 := by
  have h1 := stepsOf_len mk bt
  have h2 := puts_len mk bt
  have h3 := fives_steps mk bt
  unfold wt
  omega
theorem doM_okw {A : Mm} {B : Nat} (h : A.ok B) (K : Wk) (S : Sto) (p : Nat × Int) (hp5 : p.1 ≠ 5 → p.1 = 1 ∨ p.1 = 2 ∨ p.1 = 3 ∨ p.1 = 4) : (K.doM S A p).ok (B + (1 + (if isPut p = true then 8 else 0) + (if p.1 = 5 then 10 else 0))) := by
  by_cases h5 : p.1 = 5
  · rw [if_pos h5]
    exact ok_mono (doM_ok h K S p) (by omega)
  · rw [if_neg h5]
    by_cases hp : p.1 = 2 ∨ p.1 = 3
    · have hi : isPut p = true := by unfold isPut; rcases hp with e | e <;> rw [e] <;> rfl
      rw [if_pos hi]
      unfold Wk.doM
      rw [if_neg (by omega), if_pos hp]
      exact ok_mono (putM_ok h _ (listF_inU (K.line_wf p))) (by omega)
    · by_cases h1 : p.1 = 1
      · unfold Wk.doM; rw [if_pos h1]; exact ok_mono (ok_flushZ h _ _) (by omega)
      · have h4 : p.1 = 4 := by have := hp5 h5; omega
        unfold Wk.doM; rw [if_neg h1, if_neg hp, if_pos h4]; exact ok_mono (ok_fenceZ h _) (by omega)

structure Gc (N : Nat) (mk bt : Nat → En) (bd : Nat → Int) (C : Nat → Nat → Int) (q : Int) (e : Nat) (S : Sto) (A : Mm) (K : Wk) : Prop where
  ck : ∃ pre, Ck N mk bt bd C pre S A K
  calm : Calm A
  s0 : LSu (A.l 0) zeroF
  s1 : LSu (A.l 1) zeroF
  sl : K.sl = 0
  b : K.b = [1, 17, 0, 1]
  q : K.q = q
  left : K.l.countP isPut + K.l.length + e ≤ S.F.left
  ok : ∃ B, A.ok B ∧ B + wt K.l + 8 * K.l.length + 8 * e ≤ 808
structure Dn (N : Nat) (mk : Nat → En) (C : Nat → Nat → Int) (q : Int) (e : Nat) (S : Sto) (A : Mm) (K : Wk) : Prop where
  l : K.l = []
  img : Img N A mk K.d
  su : ∀ i, i < 49 → (mk i).k ≠ 0 → LSu (A.l (mk i).l.toNat) (C i)
  s0 : LSu (A.l 0) zeroF
  s1 : LSu (A.l 1) (listF (lineS [2, K.d 7, q, 1]))
  may : mayS [2, K.d 7, q, 1] = true
  calm : Calm A
  n : A.n = N
  ok : ∃ B, A.ok B ∧ B + 8 * e ≤ 808
  good : Good N S
  b : S.b = mk
  d : S.d = K.d
section
variable {N : Nat} {mk bt : Nat → En} {bd : Nat → Int} {C : Nat → Nat → Int} {q : Int} {e : Nat} {S : Sto} {A : Mm} {K : Wk}
theorem Gc.ch (h : Gc N mk bt bd C q 1 S A K) (p : OOp) (hp : InU p.v) : Gc N mk bt bd C q 0 (chS S A p) (chM S A p) K := by
  obtain ⟨pre, hc⟩ := h.ck
  obtain ⟨B, b1, b2⟩ := h.ok
  have hl := left_ch S A p
  have := h.left
  exact ⟨⟨pre, hc.ch p⟩, calm_ch hc.good.inv h.calm (by rw [hc.good.lh.2, hc.n]; exact Nat.le_refl _) p, by rw [ch_low hc.good (by decide)]; exact h.s0, by rw [ch_low hc.good (by decide)]; exact h.s1, h.sl, h.b, h.q, by omega, ⟨B + 8, chM_ok b1 p hp, by omega⟩⟩
theorem Gc.less (h : Gc N mk bt bd C q 1 S A K) : Gc N mk bt bd C q 0 S A K := by
  obtain ⟨B, b1, b2⟩ := h.ok
  have := h.left
  exact ⟨h.ck, h.calm, h.s0, h.s1, h.sl, h.b, h.q, by omega, ⟨B, b1, by omega⟩⟩
theorem Dn.less (h : Dn N mk C q 1 S A K) : Dn N mk C q 0 S A K := by
  obtain ⟨B, b1, b2⟩ := h.ok
  exact ⟨h.l, h.img, h.su, h.s0, h.s1, h.may, h.calm, h.n, ⟨B, b1, by omega⟩, h.good, h.b, h.d⟩
theorem Dn.ch (h : Dn N mk C q 1 S A K) (p : OOp) (hp : InU p.v) : Dn N mk C q 0 (chS S A p) (chM S A p) K := by
  obtain ⟨B, b1, b2⟩ := h.ok
  obtain ⟨f1, f2, f3, f4⟩ := fixed_ch S A p
  have hd := h.d
  have hb := h.b
  have od : ∀ i, i < 8 → (chM S A p).l (K.d i).toNat = A.l (K.d i).toNat := fun i hi => by
    rw [← hd]
    exact ch_other h.good ⟨h.good.inv.td i hi, Or.inr fun j hj hk => h.good.inv.dw i j hi hj hk⟩ p
  have om : ∀ i, i < 49 → (mk i).k ≠ 0 → (chM S A p).l (mk i).l.toNat = A.l (mk i).l.toNat := fun i hi hk => by
    rw [← hb] at hk ⊢
    exact ch_other h.good ⟨h.good.inv.tb i hi hk, Or.inl (Or.inl ((hasB_iff _ _).2 ⟨i, hi, hk, rfl⟩))⟩ p
  exact ⟨h.l, ⟨fun k hk => by rw [od k (by omega)]; exact h.img.lf k hk, by rw [od 7 (by decide)]; exact h.img.rt, h.img.may, h.img.db, h.img.te, h.img.dd, h.img.dt, h.img.tt⟩, fun i hi hk => by rw [om i hi hk]; exact h.su i hi hk, by rw [ch_low h.good (by decide)]; exact h.s0, by rw [ch_low h.good (by decide)]; exact h.s1, h.may, calm_ch h.good.inv h.calm (by rw [h.good.lh.2, h.n]; exact Nat.le_refl _) p, (chM_n _ _ _).trans h.n, ⟨B + 8, chM_ok b1 p hp, by omega⟩, h.good.ch A p, f1.trans h.b, f2.trans h.d⟩
theorem Gc.step (h64 : 64 ≤ N) (h : Gc N mk bt bd C q 0 S A K) {p : Nat × Int} {r : List (Nat × Int)} (hl : K.l = p :: r) :
    K.stepE S A = 0 ∧ K.stepD S A = decide (r = []) ∧ ((r ≠ [] ∧ (K.stepK S A).l = r ∧ Gc N mk bt bd C q 1 (K.stepS S A) (K.stepM S A) (K.stepK S A)) ∨ (r = [] ∧ Dn N mk C q 1 (K.stepS S A) (K.stepM S A) (K.stepK S A))) := by
  obtain ⟨pre, hc⟩ := h.ck
  obtain ⟨B, b1, b2⟩ := h.ok
  have hp : p ∈ K.l := by rw [hl]; exact List.mem_cons_self
  have hpre : pre ++ p :: r = stepsOf mk bt := by rw [← hl]; exact hc.eq
  have hlast := last_five hpre
  have did := way_did hc.good h.calm hc.n h64 hc.way hp
  have hleft := h.left
  rw [hl, List.countP_cons, List.length_cons] at hleft
  have hw := b2
  rw [hl, wt_cons, List.length_cons] at hw
  have hE : K.doE S A p = 0 := by
    rcases did.e with hE | ⟨hE, hA, hP⟩
    · exact hE
    · exfalso
      have h2 := left_none hA
      omega
  have h14 : p.1 ≠ 5 → p.1 = 1 ∨ p.1 = 2 ∨ p.1 = 3 ∨ p.1 = 4 := fun h5 => by
    rcases hc.way.l p hp with c | c | c | c | c
    · exact Or.inl c.1
    · exact Or.inr (Or.inl c.1)
    · exact Or.inr (Or.inr (Or.inl (by rw [c])))
    · exact Or.inr (Or.inr (Or.inr (by rw [c])))
    · rw [c] at h5; exact absurd rfl h5
  have hsl : 0 ≤ K.sl ∧ K.sl ≤ 1 := by rw [h.sl]; exact ⟨by decide, by decide⟩
  have h10 : 10 ≤ S.F.lo := by rw [hc.good.lh.1]; exact Nat.le_refl _
  have hok := doM_okw b1 K S p h14
  have x0 : LSu ((K.doM S A p).l 0) zeroF := do_low hc.good (by decide) (fun _ => by rw [h.sl]; decide) h14 h.s0
  rw [stepE_cons hl, stepM_cons hl, stepS_cons hl, stepK_cons hl, stepD_cons hl, hE, if_neg (show ¬ ((0 : Int) = 10) by decide), if_neg (show ¬ ((0 : Int) = 10) by decide), if_pos (show (0 : Int) = 0 from rfl)]
  refine ⟨rfl, by simp, ?_⟩
  by_cases h5 : p.1 = 5
  · right
    have hr := hlast.1 h5
    refine ⟨hr, ?_⟩
    obtain ⟨f1, f2, f3, f4, f5, f6, f7, f8, f9⟩ := way_last hc.good hc.way hp hE h5
    have hq : (4, 0) ∈ pre ∧ ∀ z ∈ early mk bt, z ∈ pre := by
      rcases order hpre with ⟨c, _⟩ | ⟨c, _⟩ | ⟨c, _⟩ | ⟨c, e⟩
      · omega
      · rw [c] at h5; cases h5
      · rw [c] at h5; cases h5
      · rw [e]; exact ⟨by simp, fun z hz => by simp [hz]⟩
    obtain ⟨i1, i2⟩ := hc.img hq.1 hq.2
    have hnx : K.next = [2, K.d 7, q, 1] := by unfold Wk.next Wk.gen; rw [h.b, h.q]; rfl
    have hm := way_sup hc.good hc.way
    rw [hnx] at hm
    have x1 : LSu ((K.doM S A p).l 1) (listF (lineS [2, K.d 7, q, 1])) := by
      rw [f9, h.sl, hnx]
      rw [h.sl, hnx] at f8
      exact write_su h.s1.1 (by rw [hc.n]; exact h64) hm f8
    rw [f1, f7, hr]
    have xd : ∀ i, i < 8 → ∀ c, LSu (A.l (K.d i).toNat) c → LSu ((K.doM S A p).l (K.d i).toNat) c := fun i hi c hs => do_su (hc.way.d i hi) h10 hsl hs
    exact ⟨rfl, ⟨fun k hk => xd k (by omega) _ (i1.lf k hk), xd 7 (by decide) _ i1.rt, i1.may, i1.db, i1.te, i1.dd, i1.dt, i1.tt⟩, fun i hi hk => do_su (hc.tm i hi hk) h10 hsl (i2 i hi hk), x0, x1, hm, did.calm, did.n, ⟨_, hok, by omega⟩, f2, f3.trans hc.k, f4⟩
  · left
    have hr : r ≠ [] := fun z => h5 (hlast.2 z)
    obtain ⟨f1, f2, f3, f4, f5, f6, f7, f8, f9, f10⟩ := way_step hc.good hc.way hl hE h5
    refine ⟨hr, rfl, ⟨pre ++ [p], hc.step hl hE h5⟩, did.calm, x0, do_low hc.good (by decide) (fun z => absurd z h5) h14 h.s1, f8.trans h.sl, f7.trans h.b, f9.trans h.q, ?_, ⟨_, hok, ?_⟩⟩
    · show r.countP isPut + r.length + 1 ≤ _
      by_cases hi : isPut p = true
      · rw [if_pos hi] at hleft f10; omega
      · rw [if_neg hi] at hleft f10; omega
    · show B + _ + wt r + 8 * r.length + 8 * 1 ≤ 808
      omega
theorem Gc.fine (h : Gc N mk bt bd C q e S A K) : ∀ p r, K.l = p :: r → K.fine p := fun p r hl => by
  obtain ⟨pre, hc⟩ := h.ck
  exact way_fine hc.good hc.way (by rw [hl]; exact List.mem_cons_self)
theorem Gc.sok (h : Gc N mk bt bd C q e S A K) : S.ok := by obtain ⟨pre, hc⟩ := h.ck; exact hc.good.ok
theorem zero_noS : isS (rowOf zeroF) = false := by decide +kernel
theorem Dn.found (h : Dn N mk C q e S A K) : A.findE = 0 ∧ A.findAt = 1 ∧ A.findV = [2, K.d 7, q, 1] := by
  have r0 : rowOf (A.l 0).has = rowOf zeroF := by
    unfold rowOf
    exact List.map_congr_left fun j hj => h.s0.hs j (List.mem_range.1 hj)
  have r1 : rowOf (A.l 1).has = lineS [2, K.d 7, q, 1] := LHs.row (lineS_len _) h.s1.hs
  obtain ⟨b1, b2, b3⟩ := best_other [2, K.d 7, q, 1] rfl h.may (rowOf zeroF) zero_noS
  unfold Mm.findE Mm.findAt Mm.findV Mm.bestM
  rw [r0, r1, b1, b2, b3, h.calm.1]
  exact ⟨rfl, rfl, rfl⟩
theorem Dn.loads (h : Dn N mk C q e S A K) (hN : N ≤ 1024) (keep : List Int) : ldT (A.crash keep) 10 (K.d 7) = rowE 49 mk ∧ ldE (A.crash keep) 10 (K.d 7) = 0 :=
  (h.img.crash keep).load hN h.n rfl
theorem Dn.has (h : Dn N mk C q e S A K) (keep : List Int) {i : Nat} (hi : i < 49) (hk : (mk i).k ≠ 0) : ∀ j, j < 8 → (A.crash keep).hasZ (mk i).l j = C i j := fun j hj => by
  have hz : (A.crash keep).isZ (mk i).l := by
    have := h.img.te i hi hk
    have hn := h.n
    show 0 ≤ (mk i).l ∧ (mk i).l < A.n
    omega
  unfold Mm.hasZ
  rw [if_pos ⟨hz, rfl⟩]
  exact (crash_su (h.su i hi hk) keep).hs j hj
end
/-- Under way with l steps left, or done. -/
def Cq (N : Nat) (mk bt : Nat → En) (bd : Nat → Int) (C : Nat → Nat → Int) (q : Int) (e : Nat) (S : Sto) (A : Mm) (K : Wk) (l : Nat) : Prop := (Gc N mk bt bd C q e S A K ∧ K.l.length = l ∧ 0 < l) ∨ (Dn N mk C q e S A K ∧ l = 0)
section
variable {N : Nat} {mk bt : Nat → En} {bd : Nat → Int} {C : Nat → Nat → Int} {q : Int} {e : Nat} {S : Sto} {A : Mm} {K : Wk} {l : Nat}
theorem Cq.step (h64 : 64 ≤ N) (h : Cq N mk bt bd C q 0 S A K (l + 1)) : K.stepE S A = 0 ∧ K.stepD S A = decide (l = 0) ∧ Cq N mk bt bd C q 1 (K.stepS S A) (K.stepM S A) (K.stepK S A) l := by
  rcases h with ⟨g, g1, g2⟩ | ⟨_, g⟩
  · obtain ⟨p, r, hl⟩ : ∃ p r, K.l = p :: r := List.exists_cons_of_ne_nil (by intro z; rw [z] at g1; cases g1)
    have hr : r.length = l := by rw [hl] at g1; simpa using g1
    obtain ⟨e1, e2, e3⟩ := g.step h64 hl
    refine ⟨e1, e2.trans ?_, ?_⟩
    · by_cases z : r = []
      · subst z; rw [← hr]; rfl
      · rw [decide_eq_false z, decide_eq_false (fun y => z (List.eq_nil_of_length_eq_zero (hr.trans y)))]
    · rcases e3 with ⟨z, z1, z2⟩ | ⟨z, z1⟩
      · refine Or.inl ⟨z2, by rw [z1]; exact hr, ?_⟩
        cases r with
        | nil => exact absurd rfl z
        | cons a r => rw [← hr]; exact Nat.succ_pos _
      · exact Or.inr ⟨z1, by rw [← hr, z]; rfl⟩
  · cases g
theorem Cq.ch (h : Cq N mk bt bd C q 1 S A K l) (p : OOp) (hp : InU p.v) : Cq N mk bt bd C q 0 (chS S A p) (chM S A p) K l := by
  rcases h with ⟨g, g1, g2⟩ | ⟨g, g1⟩
  · exact Or.inl ⟨g.ch p hp, g1, g2⟩
  · exact Or.inr ⟨g.ch p hp, g1⟩
theorem Cq.less (h : Cq N mk bt bd C q 1 S A K l) : Cq N mk bt bd C q 0 S A K l := by
  rcases h with ⟨g, g1, g2⟩ | ⟨g, g1⟩
  · exact Or.inl ⟨g.less, g1, g2⟩
  · exact Or.inr ⟨g.less, g1⟩
theorem Cq.fine (h : Cq N mk bt bd C q e S A K l) : ∀ p r, K.l = p :: r → K.fine p := by
  rcases h with ⟨g, g1, g2⟩ | ⟨g, g1⟩
  · exact g.fine
  · intro p r z; rw [g.l] at z; cases z
theorem Cq.sok (h : Cq N mk bt bd C q e S A K l) : S.ok := by
  rcases h with ⟨g, g1, g2⟩ | ⟨g, g1⟩
  · exact g.sok
  · exact g.good.ok
theorem Cq.aok (h : Cq N mk bt bd C q e S A K l) : ∃ B, A.ok B ∧ B + 8 * e ≤ 808 := by
  rcases h with ⟨g, g1, g2⟩ | ⟨g, g1⟩
  · obtain ⟨B, b1, b2⟩ := g.ok
    exact ⟨B, b1, by omega⟩
  · exact g.ok
theorem Cq.ok9 (h : Cq N mk bt bd C q e S A K l) : A.ok 900 := by obtain ⟨B, b1, b2⟩ := h.aok; exact ok_mono b1 (by omega)
theorem Cq.ok8 (h : Cq N mk bt bd C q 1 S A K l) : A.ok 800 := by obtain ⟨B, b1, b2⟩ := h.aok; exact ok_mono b1 (by omega)
theorem Cq.dn (h : Cq N mk bt bd C q e S A K 0) : Dn N mk C q e S A K := by
  rcases h with ⟨g, g1, g2⟩ | ⟨g, g1⟩
  · cases g2
  · exact g
end
/-- What stands when a checkpoint begins. -/
theorem Gc.begin {N : Nat} {bt : Nat → En} {bd : Nat → Int} {S : Sto} {A : Mm} {B : Nat} {K : Wk} {q : Int} (g : Good N S.markS) (hS : S.markS = ⟨S.F, S.w, S.b, S.d, S.w, true⟩) (hi : Inv S) (hc : Calm A) (hn : A.n = N) (hw : Way S.markS K) (hKk : K.k = S.w) (hKd : K.d = S.d) (hKl : K.l = stepsOf S.w S.b) (hKs : K.sl = 0) (hKb : K.b = [1, 17, 0, 1]) (hKq : K.q = q)
    (hSb : S.b = bt) (hSd : S.d = bd) (hb : Bs bt bd A) (hok : A.ok B) (hB : B + wt K.l + 8 * K.l.length ≤ 808) (hl : K.l.countP isPut + K.l.length ≤ S.F.left) :
    Gc N S.w bt bd (fun i => (A.l (S.w i).l.toNat).has) q 0 S.markS A K := by
  have hpre : [] ++ K.l = stepsOf S.w bt := by rw [List.nil_append, hKl, hSb]
  have no : ∀ z : Nat × Int, z ∉ ([] : List (Nat × Int)) := fun z hz => by cases hz
  refine ⟨⟨[], g, hn, hw, by rw [hS], by rw [hS]; exact hSb, by rw [hS]; exact hSd, hpre, hi.wd, fun a b ha hb' hab => ?_, fun a b ha hb' hk => ?_, fun k hk _ => ?_, hb.bl, hb.br, fun a ha hk hB => ?_, fun a ha hk j hj => rfl, fun a _ _ hm => absurd hm (no _), fun a _ hm => absurd hm (no _), fun hm => absurd hm (no _), fun hm => absurd hm (no _), fun hm => absurd hm (no _), fun hm => absurd hm (no _)⟩, hc, hb.s0, hb.s1, hKs, hKb, hKq, ?_, ⟨B, hok, hB⟩⟩
  · rw [hKd, hSd]; exact hb.dd a b ha hb' hab
  · rw [hKd]; exact hi.dw a b ha hb' hk
  · rw [hKd, hSd]
  · obtain ⟨j, hj, hk2, hl⟩ := (hasB_iff _ _).1 hB
    have ht := hb.bo j hj hk2
    rw [hl] at ht
    exact ⟨ht, fun m hm => by show _ = (A.l (S.w a).l.toNat).has m; rw [has_sure ht]⟩
  · have hF : S.markS.F = S.F := by rw [hS]
    rw [hF]
    exact hl
theorem left_400 : (sS 12 400).F.left = 370 := by decide +kernel
theorem Gc.start {S : Sto} {A : Mm} {i : Nat} {q : Int} (h : Chd 400 S A i) (hb : Bs (tblF 12) dirF A) (hi : i ≤ 20) (hq : 0 ≤ q ∧ q ≤ two40) :
    wk0.beginE S q = 0 ∧ (wk0.beginK S q).l = stepsOf S.w S.b ∧ Gc 400 S.w (tblF 12) dirF (fun i => (A.l (S.w i).l.toNat).has) q 0 (wk0.beginS S q) A (wk0.beginK S q) := by
  obtain ⟨e1, e2, e3, e4⟩ := way_begin (z := q) h.good (rfl : wk0.l = []) sup_wk0 hq h.is
  have eS : S.markS = ⟨S.F, S.w, S.b, S.d, S.w, true⟩ := by unfold Sto.markS; rw [h.is]; rfl
  have h1 := puts_len S.w S.b
  have h2 := stepsOf_len S.w S.b
  have h3 := wt_steps S.w S.b
  have hleft := h.left
  rw [left_400] at hleft
  have k1 : (wk0.beginK S q).l = stepsOf S.w S.b := by rw [e3]
  have k2 : (wk0.beginK S q).k = S.w := by rw [e3]
  have k3 : (wk0.beginK S q).d = S.d := by rw [e3]
  have k4 : (wk0.beginK S q).sl = 0 := by rw [e3]; rfl
  have k5 : (wk0.beginK S q).b = [1, 17, 0, 1] := by rw [e3]; rfl
  have k6 : (wk0.beginK S q).q = q := by rw [e3]
  refine ⟨e1, k1, ?_⟩
  rw [e2]
  have hb1 := h.b
  have hd1 := h.d
  clear e1 e2 e3
  generalize wk0.beginK S q = K at *
  generalize tblF 12 = bt at *
  exact Gc.begin h.good.mark eS h.good.inv h.calm h.n e4 k2 k3 k1 k4 k5 k6 hb1 hd1 hb h.ok (by rw [k1]; omega) (by rw [k1]; omega)
theorem Cq.start {S : Sto} {A : Mm} {i : Nat} {q : Int} (h : Chd 400 S A i) (hb : Bs (tblF 12) dirF A) (hi : i ≤ 20) (hq : 0 ≤ q ∧ q ≤ two40) :
    wk0.beginE S q = 0 ∧ (wk0.beginK S q).l.length ≤ 59 ∧ Cq 400 S.w (tblF 12) dirF (fun i => (A.l (S.w i).l.toNat).has) q 0 (wk0.beginS S q) A (wk0.beginK S q) (wk0.beginK S q).l.length := by
  obtain ⟨e1, e2, e3⟩ := Gc.start h hb hi hq
  refine ⟨e1, by rw [e2]; exact stepsOf_len _ _, Or.inl ⟨e3, rfl, ?_⟩⟩
  rw [e2, stepsOf_last, List.length_append]
  exact Nat.succ_pos _

end Go.Proofs.YtiafhcgaikapcaaGreat
