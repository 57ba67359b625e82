
/-
  What the document's sure does: a line's first n stores are sure.
-/
import Derived.Test.YtmmgacpipcgkdaaNRefHas
import Derived.Laws.AppendOwnNone
namespace Go.Proofs.Ytmmgacpipcgkdaa
open Go.ChangeShapes Go.WideShapes Go.ChangeAt Go.RowKit Go.Joins
set_option maxRecDepth 10000
set_option linter.unusedVariables false
set_option linter.unusedSimpArgs false

/-- append onto a slice of the call's own, from a slice that may be nil. -/
theorem wp_append_src {P : Program} {w : World} {o : Oper} {a : Act} {K : Act → World → Prop} {Q : Exit → Act → World → Prop} (s x : Operand) (t : TypeId)
    (ho : o.op = .call { callee := .builtin .append, args := #[s, x], argTypes := #[t, t] })
    (base : Nat) (e : TypeId) (i : TypeInfo) (z : Value) (size bytes : Nat) (ht : P.underlying t = some (.slice e)) (hi : P.info? e = some i) (hz : i.zero = some z)
    (hsize : i.size = size) (hby : i.bytes = bytes) (hzs : z.cells.size = size) (hsz : 0 < size)
    (v : Value) (n : Nat) (xs : List Value) (hs : a.eval s = v) (hown : w.ownsRow base e size v n xs)
    (ao : Option Addr) (m c : Nat) (news : List Value) (hx : a.eval x = .slice ao m c) (hno : ao = none → m = 0 ∧ c = 0) (hl : news.length = m * size) (hnews : ∀ ad, ao = some ad → ∀ j u, news[j]? = some u → w.cell? (ad.add j) = some u) (h1 : ∀ u ∈ news, u.oneCell' = true)
    (h63 : n + m ≤ maxLen) (hbytes : (n + m) * bytes ≤ 140737488355328) (hbase : base ≤ w.heap.size)
    (h : ∀ v' w', w'.ownsRow base e size v' (n + m) (xs ++ news) → w.grownBy w' v.ownBlock → (v ≠ .slice none 0 0 → v' ≠ .slice none 0 0) → K (a.put o.dst v') w') : o.wp P a w K Q := by
  cases ao with
  | some ad => exact wp_append_own w s x t ho base e i z size bytes ht hi hz hsize hby hzs hsz v n xs hs hown ad m c news hx hl (hnews ad rfl) h1 h63 hbytes hbase (fun v' w' h2 h3 h4 => h v' w' h2 h3 (fun hv hv' => hv (h4.1 hv').1))
  | none =>
    obtain ⟨rfl, rfl⟩ := hno rfl
    obtain rfl : news = [] := List.eq_nil_of_length_eq_zero (by simpa using hl)
    have hrun := run_append_owned_none (P := P) (w := w) base t o.type e i size ht hi v n xs hown
    unfold Oper.wp
    simp [execOp, ho, resolve, invoke, builtin, hs, hx, hrun, Result.andThen]
    exact h v w (by simpa using hown) ⟨rfl, rfl, rfl, Nat.le_refl _, fun _ _ _ => rfl⟩ id

def doneV (l : Ln) : List Value := (List.range (l.t.length * 10)).map fun i => doneAt l (i / 10) (i % 10)
theorem doneV_len (l : Ln) : (doneV l).length = l.t.length * 10 := by simp [doneV]
theorem doneAt_one (l : Ln) (j c : Nat) : (doneAt l j c).oneCell' = true := by
  unfold doneAt
  split
  · rfl
  · split <;> rfl
theorem doneV_one (l : Ln) : ∀ u ∈ doneV l, u.oneCell' = true := by
  intro u hu
  simp only [doneV, List.mem_map] at hu
  obtain ⟨i, _, rfl⟩ := hu; exact doneAt_one _ _ _
theorem doneAt_settle (l : Ln) (n j c : Nat) : doneAt (l.settle n) j c = doneAt l (n + j) c := by
  unfold doneAt Ln.settle
  simp only [List.getD_eq_getElem?_getD, List.getElem?_drop]
  by_cases h0 : c = 0
  · simp [h0]
  · by_cases h1 : c = 1
    · simp [h1]
    · simp only [h0, h1, if_false]
      rw [show decide (j < l.f (c - 2) - n) = decide (n + j < l.f (c - 2)) from decide_eq_decide.2 (by omega)]
theorem info_done : (Try.prog.info? 95).map (fun i => (i.zero, i.size, i.bytes)) = some (some (.agg #[.int .i64 0, .int .u64 0, .bool false, .bool false, .bool false, .bool false, .bool false, .bool false, .bool false, .bool false]), 10, 24) := by kernel_rfl
/-- A row of stores that was just made. -/
theorem rrow_new {w : World} {base : Nat} {v : Value} {l : Ln} (h : w.ownsRow base 95 10 v l.t.length (doneV l)) (hv : v ≠ .slice none 0 0) :
    ∃ g cap, v = .slice (some ⟨g, 0, none⟩) l.t.length cap ∧ base ≤ g ∧ RRow w l (some g) cap := by
  rcases h.2 with ⟨rfl, _⟩ | ⟨g, cap, cur, rfl, hb, hg, hnc, hcm, hcs, htake⟩
  · exact absurd rfl hv
  · have hcur : cur = tab cur.size (fun i => cur.getD i undef) := by
      apply Array.ext_getElem?
      intro i
      by_cases hi : i < cur.size
      · rw [tab_get _ _ _ hi]; simp [Array.getD, hi]
      · rw [tab_none _ _ _ (by omega), Array.getElem?_eq_none (by omega)]
    refine ⟨g, cap, rfl, hb, Or.inr ⟨g, cur.size, fun i => cur.getD i undef, rfl, ?_, by omega, hnc, by unfold maxLen at hcm; exact hcm, fun j c hj hc => ?_⟩⟩
    · refine Blk.of_tab ?_; rw [← hcur]; exact hg
    · have hlt : j * 10 + c < l.t.length * 10 := by omega
      have h1 := h.cellAt (j * 10 + c) hlt
      rw [cell_of_block hg] at h1
      have h2 : (doneV l)[j * 10 + c]? = some (doneAt l j c) := by
        simp only [doneV, List.getElem?_map, List.getElem?_range hlt, Option.map_some, show (j * 10 + c) / 10 = j by omega, show (j * 10 + c) % 10 = c by omega]
      rw [h2] at h1
      show cur.getD (j * 10 + c) undef = _
      rw [Array.getD_eq_getD_getElem?, h1]; rfl

/-- The cells of a line's stores, behind the first n. -/
theorem rrow_cells {w : World} {l : Ln} {g cap : Nat} (h : RRow w l (some g) cap) (n : Nat) (hn : n ≤ l.t.length) :
    ∀ j u, (doneV (l.settle n))[j]? = some u → w.cell? ⟨g, n * 10 + j, none⟩ = some u := by
  intro j u hj
  have hlen : (l.settle n).t.length = l.t.length - n := by simp [Ln.settle]
  have hjl : j < (l.t.length - n) * 10 := by
    rcases Nat.lt_or_ge j ((l.t.length - n) * 10) with h | h
    · exact h
    · rw [List.getElem?_eq_none (by rw [doneV_len, hlen]; exact h)] at hj; simp at hj
  rcases h with ⟨h0, _⟩ | ⟨g', N, f, h1, h2, h3, _, _, h4⟩
  · simp at h0
  · cases h1
    rw [h2.cell _ (by omega), show n * 10 + j = (n + j / 10) * 10 + j % 10 by omega, h4 (n + j / 10) (j % 10) (by omega) (by omega), ← doneAt_settle]
    simp only [doneV, hlen, List.getElem?_map, List.getElem?_range hjl, Option.map_some] at hj
    exact hj

section
variable {w : World} {F : Nat → Prop} {b gs cs gl : Nat} {A : Mm} {ads : Nat → Option Nat} {caps : Nat → Nat}

/-- Behind the line: the row of its stores is made anew. -/
theorem rsure_end {w3 w4 : World} (h : RRep w F b A gs cs gl ads caps) (k n : Nat) (hk : k < A.n) (hn : n ≤ (A.l k).t.length) (hK3 : Keeps (· = gs) w w3)
    (hsb : ∃ N f, Blk w3 gs N 26 f ∧ A.n * 8 ≤ N ∧ ∀ i, i < A.n * 8 → f i = .int .u64 ((upd A.l k ((A.l k).settle n) (i / 8)).s (i % 8)))
    (hg4 : Keeps (fun _ => False) w3 w4) (g' cap' : Nat) (hbase : w3.heap.size ≤ g') (hrow : RRow w4 ((A.l k).settle n) (some g') cap') :
    RWent F w b gs cs gl ⟨A.n, upd A.l k ((A.l k).settle n), A.on, A.fuse, A.steps⟩ (.tuple #[]) (.returned (.tuple #[])) (w4.setCell ⟨gl, k, none⟩ (.slice (some ⟨g', 0, none⟩) ((A.l k).t.length - n) cap')) := by
  have hK4 : Keeps (fun x => x = gs ∨ x = gl) w (w4.setCell ⟨gl, k, none⟩ (.slice (some ⟨g', 0, none⟩) ((A.l k).t.length - n) cap')) :=
    (Keeps.setCell (F := fun x => x = gs ∨ x = gl) (p := ⟨gl, k, none⟩) ((hK3.mono fun _ _ e => Or.inl e).trans' (hg4.mono fun _ _ f => f.elim)) (Or.inr rfl) _)
  have hgl : gl < w3.heap.size := Nat.lt_of_lt_of_le (h.lt gl h.fl) hK3.size
  have hgs : gs < w3.heap.size := Nat.lt_of_lt_of_le (h.lt gs h.fs) hK3.size
  have hl4 : Blk w4 gl A.n 84 (rrowF A ads caps) := (h.lb.keeps hK3 (Ne.symm h.d3)).keeps hg4 id
  obtain ⟨N, f, b1, b2, b3⟩ := hsb
  have hkl : Keeps (· = gl) w4 (w4.setCell ⟨gl, k, none⟩ (.slice (some ⟨g', 0, none⟩) ((A.l k).t.length - n) cap')) := Keeps.setCell (F := (· = gl)) (p := ⟨gl, k, none⟩) (Keeps.refl _ _) rfl _
  refine ⟨rfl, _, _, _, h.line k hk ((A.l k).settle n) (some g') cap' hK4 (fun x hx => hx.elim Or.inl (fun e => Or.inr (Or.inl e))) ⟨N, f, (b1.keeps hg4 id).keeps hkl h.d3, b2, b3⟩ ?_ ?_ (fun g e => ?_), hK4.mono fun x _ hx => ?_, fun x hx => ?_⟩
  · refine (hl4.set k _).ext fun i _ => ?_
    rw [show ((A.l k).settle n).t.length = (A.l k).t.length - n by simp [Ln.settle]]; rfl
  · exact hrow.keeps hkl fun g e e2 => by cases e; omega
  · cases e; exact Or.inr (Nat.le_trans hK3.size hbase)
  · rcases hx with rfl | rfl
    · exact h.fs
    · exact h.fl
  · rcases hx with hx | hx
    · exact Or.inl hx
    · cases hx; exact Or.inr (Nat.le_trans hK3.size hbase)

theorem rsure_any (h : RRep w F b A gs cs gl ads caps) (k n : Nat) (hk : k < A.n) (hn : n ≤ (A.l k).t.length) (hok : (A.l k).ok) (hn2 : A.n ≤ 1024) (hl : (A.l k).t.length ≤ 1000000) :
    Calls Try.prog 46 #[.pointer (some ⟨b, 0, none⟩), .int .i64 k, .int .i64 n] w (RWent F w b gs cs gl ⟨A.n, upd A.l k ((A.l k).settle n), A.on, A.fuse, A.steps⟩ (.tuple #[])) := by
  have CH := hide (rhas_any h.drew k n hk hn hok hn2 hl)
  have Y0 := hide h.c0
  have H := hide h
  have hk' : (k : Int) < (A.n : Int) := by omega
  obtain ⟨f, hf⟩ : ∃ f, f = runS ((A.l k).t.take n) (A.l k).s := ⟨_, rfl⟩
  rw [← hf] at CH
  have HFE := hide hf
  clear h hf
  have HD1 := hide (unhide H).d1
  have HGB : Hid (gl ≠ b) := Ne.symm (unhide H).d2
  go_enter Try.func46, Try.ntmps46
  go_wp2_with fail
  refine wp_region_noPanic ?_
  refine wp_region_held_drew (S := fun w' => w'.cell? ⟨b, 0, none⟩ = some (.slice (some ⟨gs, 0, none⟩) A.n cs)) (by kernel_rfl) (unhide Y0) (fun hHeld => ?_)
  refine take_at 0 6 (v := ?_) rfl rfl (by kernel_rfl) (by kernel_rfl) (by kernel_rfl) (Or.inl ⟨by rfl, ?_⟩) hHeld ?_
  rotate_left
  · intro w hSw; go_simp; with_reducible rfl
  simp only [Act.put, List.setIfInBounds_toArray, List.set_cons_zero, List.set_cons_succ]
  refine take_at 1 7 (v := ?_) rfl rfl (by kernel_rfl) (by kernel_rfl) (by kernel_rfl) (Or.inl ⟨by rfl, ?_⟩) hHeld ?_
  rotate_left
  · intro w hSw; go_simp; with_reducible rfl
  simp only [Act.put, List.setIfInBounds_toArray, List.set_cons_zero, List.set_cons_succ]
  refine take_at 2 8 (v := ?_) rfl rfl (by kernel_rfl) (by kernel_rfl) (by kernel_rfl) (Or.inl ⟨by rfl, ?_⟩) hHeld ?_
  rotate_left
  · intro w hSw; go_simp; with_reducible rfl
  simp only [Act.put, List.setIfInBounds_toArray, List.set_cons_zero, List.set_cons_succ]
  refine take_at 3 9 (v := ?_) rfl rfl (by kernel_rfl) (by kernel_rfl) (by kernel_rfl) (Or.inl ⟨by rfl, ?_⟩) hHeld ?_
  rotate_left
  · intro w hSw; go_simp; with_reducible rfl
  simp only [Act.put, List.setIfInBounds_toArray, List.set_cons_zero, List.set_cons_succ]
  refine take_at 4 10 (v := ?_) rfl rfl (by kernel_rfl) (by kernel_rfl) (by kernel_rfl) (Or.inl ⟨by rfl, ?_⟩) hHeld ?_
  rotate_left
  · intro w hSw; go_simp; with_reducible rfl
  simp only [Act.put, List.setIfInBounds_toArray, List.set_cons_zero, List.set_cons_succ]
  refine take_at 5 11 (v := ?_) rfl rfl (by kernel_rfl) (by kernel_rfl) (by kernel_rfl) (Or.inl ⟨by rfl, ?_⟩) hHeld ?_
  rotate_left
  · intro w hSw; go_simp; with_reducible rfl
  simp only [Act.put, List.setIfInBounds_toArray, List.set_cons_zero, List.set_cons_succ]
  refine take_at 6 12 (v := ?_) rfl rfl (by kernel_rfl) (by kernel_rfl) (by kernel_rfl) (Or.inl ⟨by rfl, ?_⟩) hHeld ?_
  rotate_left
  · intro w hSw; go_simp; with_reducible rfl
  simp only [Act.put, List.setIfInBounds_toArray, List.set_cons_zero, List.set_cons_succ]
  refine take_at 7 13 (v := ?_) rfl rfl (by kernel_rfl) (by kernel_rfl) (by kernel_rfl) (Or.inl ⟨by rfl, ?_⟩) hHeld ?_
  rotate_left
  · intro w hSw; go_simp; with_reducible rfl
  simp only [Act.put, List.setIfInBounds_toArray, List.set_cons_zero, List.set_cons_succ]
  refine wpAnyH_ready (rs := [8]) (by kernel_rfl) (by simp) ?_
  refine AllReadyH.cons rfl (fun K hK => ?_) AllReadyH.nil
  go_simp
  refine (unhide CH).mono ?_
  rintro e w1 ⟨rfl, hk1⟩
  have HK1 : Hid (Keeps (fun _ => False) w w1) := (Keeps.refl (fun _ => False) w).drew.trans' hk1
  have y1 := (unhide HK1).cellOf (unhide Y0) id
  go_wp2_with fail
  refine hK.out _ _ y1 (fun hNew => ?_)
  clear hK K hHeld hk1 CH y1
  have hHeld := hNew
  clear hNew
  refine take_at 9 15 (v := ?_) rfl rfl (by kernel_rfl) (by kernel_rfl) (by kernel_rfl) (Or.inl ⟨by rfl, ?_⟩) hHeld ?_
  rotate_left
  · intro w hSw; go_simp; with_reducible rfl
  simp only [Act.put, List.setIfInBounds_toArray, List.set_cons_zero, List.set_cons_succ]
  refine wpAnyH_ready (rs := [10]) (by kernel_rfl) (by simp) ?_
  refine AllReadyH.cons rfl (fun K hK => ?_) AllReadyH.nil
  have s8 : (Try.prog.info? 26).map (·.size) = some (lnV f).size := by rw [lnV_size]; exact lsize
  have HT : Hid (w1.there gs (k * 8) (lnV f).size) := by
    obtain ⟨N, g, h1, h2, _⟩ := (unhide H).sb
    rw [lnV_size]; exact (h1.keeps (unhide HK1) id).there (k * 8) 8 (by omega)
  refine (if_pos (by rfl)).mpr ?_
  refine wp_store_mid 26 _ _ rfl gs (k * 8) (lnV f) rfl rfl (unhide HT) s8 (lnV_one _) ?_
  have HKX0 : Hid (Keeps (· = gs) w (w1.setCells gs (k * 8) (lnV f).toList)) := Keeps.setCells (F := (· = gs)) (Or.inl rfl) _ _ _ ((unhide HK1).mono fun _ _ x => x.elim)
  have HSB0 : Hid (∃ N g, Blk (w1.setCells gs (k * 8) (lnV f).toList) gs N 26 g ∧ A.n * 8 ≤ N ∧ ∀ i, i < A.n * 8 → g i = .int .u64 ((upd A.l k ((A.l k).settle n) (i / 8)).s (i % 8))) := by
    obtain ⟨N, g, h1, h2, _, h3⟩ := (unhide H).sb
    refine ⟨N, _, Blk.sets _ _ _ _ (h1.keeps (unhide HK1) id), h2, fun i hi => ?_⟩
    have hl8 : (lnV f).toList.length = 8 := by rw [Array.length_toList, lnV_size]
    rw [hl8]
    by_cases e : k * 8 ≤ i ∧ i < k * 8 + 8
    · rw [if_pos e, show i / 8 = k by omega, upd_same]
      have := tab_get 8 (fun j => Value.int .u64 (f j)) (i - k * 8) (by omega)
      rw [List.getD_eq_getElem?_getD, show (lnV f).toList[i - k * 8]? = some (.int .u64 (f (i - k * 8))) by rw [Array.getElem?_toList]; exact this, unhide HFE, show i % 8 = i - k * 8 by omega]; rfl
    · rw [if_neg e, h3 i hi, upd_other _ _ _ _ (by omega)]
  refine hK.out _ _ ((unhide HKX0).cellOf (unhide Y0) (unhide HD1)) (fun hNew => ?_)
  clear hK K hHeld hNew HT
  refine wpAnyH_done (by kernel_rfl) ?_ _
  refine NoPanic.normal ?_
  have Y1 : Hid ((w1.setCells gs (k * 8) (lnV f).toList).cell? ⟨b, 1, none⟩ = some (.slice (some ⟨gl, 0, none⟩) A.n A.n)) := (unhide HKX0).cellOf (unhide H).c1 (unhide HD1)
  have xl0 : (w1.setCells gs (k * 8) (lnV f).toList).cell? ⟨gl, k, none⟩ = some (.slice (slot0 (ads k)) (A.l k).t.length (caps k)) := (unhide HKX0).cellOf ((unhide H).lc k hk) (Ne.symm (unhide H).d3)
  have HRW0 : Hid (RRow (w1.setCells gs (k * 8) (lnV f).toList) (A.l k) (ads k) (caps k)) := ((unhide H).row k hk).keeps (unhide HKX0) (fun g hg e => ((unhide H).ap k hk g hg).2.1 e)
  have xf : (w1.setCells gs (k * 8) (lnV f).toList).frozen? ⟨gl, k, none⟩ = false := ((unhide H).lb.keeps (unhide HKX0) (Ne.symm (unhide H).d3)).free _
  obtain ⟨X, hX⟩ : ∃ X, X = w1.setCells gs (k * 8) (lnV f).toList := ⟨_, rfl⟩
  rw [← hX] at HKX0 HSB0 Y1 xl0 HRW0 xf ⊢
  have HKX := HKX0
  have HSB := HSB0
  clear hX HKX0 HSB0 HK1 s8
  have OW : Hid ((X.drew.alloc (.cells #[] 95)).ownsRow X.heap.size 95 10 (.slice (some ⟨X.heap.size, 0, none⟩) 0 0) 0 []) := World.ownsRow_lit (base := X.heap.size) (e := 95) (size := 10) X.drew #[] 0 (Nat.le_refl _) (by decide) rfl
  have SL2 : Hid ((A.l k).t.length - n = ((A.l k).settle n).t.length) := by show _ = _; simp [Ln.settle]
  have SLEN : Hid ((doneV ((A.l k).settle n)).length = ((A.l k).t.length - n) * 10) := by show _ = _; rw [doneV_len, ← unhide SL2]
  go_wp2_with fail
  cases had : ads k with
  | none =>
    rw [had] at xl0 HRW0
    have hz : caps k = 0 ∧ (A.l k).t = [] := by
      rcases unhide HRW0 with ⟨_, h1, h2⟩ | ⟨g, N, f, h1, _⟩
      · exact ⟨h1, h2⟩
      · simp at h1
    have hlen0 : (A.l k).t.length = 0 := by rw [hz.2]; rfl
    have xl : X.cell? ⟨gl, k, none⟩ = some (.slice none 0 0) := by rw [hlen0, hz.1] at xl0; exact xl0
    obtain rfl : n = 0 := by omega
    have SZ : Hid (0 = ((A.l k).settle 0).t.length) := by show _ = _; rw [← unhide SL2]; omega
    have SL0 : Hid ((doneV ((A.l k).settle 0)).length = 0 * 10) := by show _ = _; rw [doneV_len, ← unhide SZ]
    clear xl0 hz had
    have HL0 := hide hlen0
    clear hlen0
    refine wp_region_noPanic ?_
    refine wp_region_held_drew (S := fun w' => w'.cell? ⟨b, 1, none⟩ = some (.slice (some ⟨gl, 0, none⟩) A.n A.n)) (by kernel_rfl) (unhide Y1) (fun hHeld => ?_)
    refine take_at 0 16 (v := ?_) rfl rfl (by kernel_rfl) (by kernel_rfl) (by kernel_rfl) (Or.inl ⟨by rfl, ?_⟩) hHeld ?_
    rotate_left
    · intro w hSw; go_simp; with_reducible rfl
    simp only [Act.put, List.setIfInBounds_toArray, List.set_cons_zero, List.set_cons_succ]
    refine take_at 1 17 (v := ?_) rfl rfl (by kernel_rfl) (by kernel_rfl) (by kernel_rfl) (Or.inl ⟨by rfl, ?_⟩) hHeld ?_
    rotate_left
    · intro w hSw; go_simp; with_reducible rfl
    simp only [Act.put, List.setIfInBounds_toArray, List.set_cons_zero, List.set_cons_succ]
    refine take_at 2 18 (v := ?_) rfl rfl (by kernel_rfl) (by kernel_rfl) (by kernel_rfl) (Or.inl ⟨by rfl, ?_⟩) hHeld ?_
    rotate_left
    · intro w hSw; go_simp; with_reducible rfl
    simp only [Act.put, List.setIfInBounds_toArray, List.set_cons_zero, List.set_cons_succ]
    refine take_at 3 19 (v := ?_) rfl rfl (by kernel_rfl) (by kernel_rfl) (by kernel_rfl) (Or.inl ⟨by rfl, ?_⟩) hHeld ?_
    rotate_left
    · intro w hSw; go_simp; with_reducible rfl
    simp only [Act.put, List.setIfInBounds_toArray, List.set_cons_zero, List.set_cons_succ]
    refine take_at 4 20 (v := ?_) rfl rfl (by kernel_rfl) (by kernel_rfl) (by kernel_rfl) (Or.inl ⟨by rfl, ?_⟩) hHeld ?_
    rotate_left
    · intro w hSw; go_simp; with_reducible rfl
    simp only [Act.put, List.setIfInBounds_toArray, List.set_cons_zero, List.set_cons_succ]
    refine take_at 6 22 (v := ?_) rfl rfl (by kernel_rfl) (by kernel_rfl) (by kernel_rfl) (Or.inl ⟨by rfl, ?_⟩) hHeld ?_
    rotate_left
    · intro w hSw; go_simp; with_reducible rfl
    simp only [Act.put, List.setIfInBounds_toArray, List.set_cons_zero, List.set_cons_succ]
    refine take_at 7 23 (v := ?_) rfl rfl (by kernel_rfl) (by kernel_rfl) (by kernel_rfl) (Or.inl ⟨by rfl, ?_⟩) hHeld ?_
    rotate_left
    · intro w hSw; go_simp; with_reducible rfl
    simp only [Act.put, List.setIfInBounds_toArray, List.set_cons_zero, List.set_cons_succ]
    refine take_at 8 24 (v := ?_) rfl rfl (by kernel_rfl) (by kernel_rfl) (by kernel_rfl) (Or.inl ⟨by rfl, ?_⟩) hHeld ?_
    rotate_left
    · intro w hSw; go_simp; with_reducible rfl
    simp only [Act.put, List.setIfInBounds_toArray, List.set_cons_zero, List.set_cons_succ]
    refine take_at 9 25 (v := ?_) rfl rfl (by kernel_rfl) (by kernel_rfl) (by kernel_rfl) (Or.inl ⟨by rfl, ?_⟩) hHeld ?_
    rotate_left
    · intro w hSw; go_simp; with_reducible rfl
    simp only [Act.put, List.setIfInBounds_toArray, List.set_cons_zero, List.set_cons_succ]
    refine take_at 10 26 (v := ?_) rfl rfl (by kernel_rfl) (by kernel_rfl) (by kernel_rfl) (Or.inl ⟨by rfl, ?_⟩) hHeld ?_
    rotate_left
    · intro w hSw; go_simp; with_reducible rfl
    simp only [Act.put, List.setIfInBounds_toArray, List.set_cons_zero, List.set_cons_succ]
    refine take_at 11 27 (v := ?_) rfl rfl (by kernel_rfl) (by kernel_rfl) (by kernel_rfl) (Or.inl ⟨by rfl, ?_⟩) hHeld ?_
    rotate_left
    · intro w hSw; go_simp; with_reducible rfl
    simp only [Act.put, List.setIfInBounds_toArray, List.set_cons_zero, List.set_cons_succ]
    refine take_at 13 29 (v := ?_) rfl rfl (by kernel_rfl) (by kernel_rfl) (by kernel_rfl) (Or.inl ⟨by rfl, ?_⟩) hHeld ?_
    rotate_left
    · intro w hSw; go_simp; with_reducible rfl
    simp only [Act.put, List.setIfInBounds_toArray, List.set_cons_zero, List.set_cons_succ]
    have hS1 : (X.drew.alloc (.cells #[] 95)).cell? ⟨b, 1, none⟩ = some (.slice (some ⟨gl, 0, none⟩) A.n A.n) := cell_under (w := X.drew) hHeld _
    have HS1 := hide hS1
    clear hS1
    refine wpAnyH_ready (rs := [5, 12]) (by kernel_rfl) (by simp) ?_
    refine AllReadyH.cons rfl (fun K hK => ?_) (AllReadyH.cons rfl (fun K hK => ?_) AllReadyH.nil)
    · go_simp
      refine hK.out _ _ (unhide HS1) (fun hNew => ?_)
      clear hK K
      refine wpAnyH_ready (rs := [12]) (by kernel_rfl) (by simp) ?_
      refine AllReadyH.cons rfl (fun K hK => ?_) AllReadyH.nil
      have cc1 := (World.cell?_alloc_some X ⟨gl, k, none⟩ (.cells #[] 95) (by rw [xl]; rfl)).trans xl
      go_simp
      clear cc1
      refine hK.out _ _ (unhide HS1) (fun hNew2 => ?_)
      clear hK K hNew hHeld
      have hHeld := hNew2
      clear hNew2
      refine take_at 14 30 (v := ?_) rfl rfl (by kernel_rfl) (by kernel_rfl) (by kernel_rfl) (Or.inl ⟨by rfl, ?_⟩) hHeld ?_
      rotate_left
      · intro w hSw; go_simp; with_reducible rfl
      simp only [Act.put, List.setIfInBounds_toArray, List.set_cons_zero, List.set_cons_succ]
      refine wpAnyH_ready (rs := [15]) (by kernel_rfl) (by simp) ?_
      refine AllReadyH.cons rfl (fun K hK => ?_) AllReadyH.nil
      obtain ⟨i0, hi, hz0, hz1, hz2⟩ := info_parts info_done
      refine (if_pos (by rfl)).mpr ?_
      refine wp_append_src (.tmp 21) (.tmp 30) 84 rfl X.heap.size 95 i0 _ 10 24 Try.underlying84 hi hz0 hz1 hz2 rfl (by decide) (.slice (some ⟨X.heap.size, 0, none⟩) 0 0) 0 [] rfl (unhide OW) none 0 0 (doneV ((A.l k).settle 0)) rfl (fun _ => ⟨rfl, rfl⟩) (unhide SL0) (fun _ h => by simp at h) (doneV_one _) (by unfold maxLen; omega) (by omega) (by simp) ?_
      intro v' w4 hown hgr hnil
      have hw4 : Keeps (fun _ => False) X w4 := Keeps.grown (((Keeps.refl _ _).alloc _).drew) hgr (fun k hk => by simp [Value.ownBlock] at hk; right; omega)
      rw [Nat.zero_add, List.nil_append] at hown
      replace hown : w4.ownsRow X.heap.size 95 10 v' ((A.l k).settle 0).t.length (doneV ((A.l k).settle 0)) := by rw [← unhide SZ]; exact hown
      obtain ⟨g', cap', rfl, hb', hrow'⟩ := rrow_new hown (hnil (by simp))
      rw [← unhide SL2]
      have HW4 := hide hw4
      have HROW := hide hrow'
      have HB' := hide hb'
      have y4 := (unhide HW4).cellOf (unhide Y1) id
      have l4 := (unhide HW4).cellOf xl id
      have f4 : w4.frozen? ⟨gl, k, none⟩ = false := by rw [World.frozen?_of_block (w := X) ((unhide HW4).block gl (World.block_lt_of_cell? X _ xl) id)]; exact xf
      refine hK.out _ _ y4 (fun hNew => ?_)
      clear hK K hHeld hown hgr hnil hw4 hrow' hb' hi hz0 hz1 hz2 i0
      have hHeld := hNew
      clear hNew
      simp only [Act.put, List.setIfInBounds_toArray]
      refine take_at 16 32 (v := ?_) rfl rfl (by kernel_rfl) (by kernel_rfl) (by kernel_rfl) (Or.inl ⟨by rfl, ?_⟩) hHeld ?_
      rotate_left
      · intro w hSw; go_simp; with_reducible rfl
      simp only [Act.put, List.setIfInBounds_toArray, List.set_cons_zero, List.set_cons_succ]
      refine wpAnyH_ready (rs := [17]) (by kernel_rfl) (by simp) ?_
      refine AllReadyH.cons rfl (fun K hK => ?_) AllReadyH.nil
      go_simp
      refine hK.out _ _ ((World.cell?_setCell_far _ _ _ _ (unhide HGB)).trans y4) (fun hNew => ?_)
      clear hK K hHeld hNew
      refine wpAnyH_done (by kernel_rfl) ?_ _
      refine NoPanic.normal ?_
      clear y4 l4 f4
      go_wp2_with fail
      go_end0
      exact rsure_end (unhide H) k _ hk hn (unhide HKX) (unhide HSB) (unhide HW4) g' cap' (unhide HB') (unhide HROW)
    · go_simp
      refine hK.out _ _ hHeld (fun hNew => ?_)
      clear hK K
      refine take_at 14 30 (v := ?_) rfl rfl (by kernel_rfl) (by kernel_rfl) (by kernel_rfl) (Or.inl ⟨by rfl, ?_⟩) hHeld ?_
      rotate_left
      · intro w hSw; go_simp; with_reducible rfl
      simp only [Act.put, List.setIfInBounds_toArray, List.set_cons_zero, List.set_cons_succ]
      refine wpAnyH_ready (rs := [5]) (by kernel_rfl) (by simp) ?_
      refine AllReadyH.cons rfl (fun K hK => ?_) AllReadyH.nil
      go_simp
      refine hK.out _ _ (unhide HS1) (fun hNew2 => ?_)
      clear hK K hNew hHeld
      have hHeld := hNew2
      clear hNew2
      refine wpAnyH_ready (rs := [15]) (by kernel_rfl) (by simp) ?_
      refine AllReadyH.cons rfl (fun K hK => ?_) AllReadyH.nil
      obtain ⟨i0, hi, hz0, hz1, hz2⟩ := info_parts info_done
      refine (if_pos (by rfl)).mpr ?_
      refine wp_append_src (.tmp 21) (.tmp 30) 84 rfl X.heap.size 95 i0 _ 10 24 Try.underlying84 hi hz0 hz1 hz2 rfl (by decide) (.slice (some ⟨X.heap.size, 0, none⟩) 0 0) 0 [] rfl (unhide OW) none 0 0 (doneV ((A.l k).settle 0)) rfl (fun _ => ⟨rfl, rfl⟩) (unhide SL0) (fun _ h => by simp at h) (doneV_one _) (by unfold maxLen; omega) (by omega) (by simp) ?_
      intro v' w4 hown hgr hnil
      have hw4 : Keeps (fun _ => False) X w4 := Keeps.grown (((Keeps.refl _ _).alloc _).drew) hgr (fun k hk => by simp [Value.ownBlock] at hk; right; omega)
      rw [Nat.zero_add, List.nil_append] at hown
      replace hown : w4.ownsRow X.heap.size 95 10 v' ((A.l k).settle 0).t.length (doneV ((A.l k).settle 0)) := by rw [← unhide SZ]; exact hown
      obtain ⟨g', cap', rfl, hb', hrow'⟩ := rrow_new hown (hnil (by simp))
      rw [← unhide SL2]
      have HW4 := hide hw4
      have HROW := hide hrow'
      have HB' := hide hb'
      have y4 := (unhide HW4).cellOf (unhide Y1) id
      have l4 := (unhide HW4).cellOf xl id
      have f4 : w4.frozen? ⟨gl, k, none⟩ = false := by rw [World.frozen?_of_block (w := X) ((unhide HW4).block gl (World.block_lt_of_cell? X _ xl) id)]; exact xf
      refine hK.out _ _ y4 (fun hNew => ?_)
      clear hK K hHeld hown hgr hnil hw4 hrow' hb' hi hz0 hz1 hz2 i0
      have hHeld := hNew
      clear hNew
      simp only [Act.put, List.setIfInBounds_toArray]
      refine take_at 16 32 (v := ?_) rfl rfl (by kernel_rfl) (by kernel_rfl) (by kernel_rfl) (Or.inl ⟨by rfl, ?_⟩) hHeld ?_
      rotate_left
      · intro w hSw; go_simp; with_reducible rfl
      simp only [Act.put, List.setIfInBounds_toArray, List.set_cons_zero, List.set_cons_succ]
      refine wpAnyH_ready (rs := [17]) (by kernel_rfl) (by simp) ?_
      refine AllReadyH.cons rfl (fun K hK => ?_) AllReadyH.nil
      go_simp
      refine hK.out _ _ ((World.cell?_setCell_far _ _ _ _ (unhide HGB)).trans y4) (fun hNew => ?_)
      clear hK K hHeld hNew
      refine wpAnyH_done (by kernel_rfl) ?_ _
      refine NoPanic.normal ?_
      clear y4 l4 f4
      go_wp2_with fail
      go_end0
      exact rsure_end (unhide H) k _ hk hn (unhide HKX) (unhide HSB) (unhide HW4) g' cap' (unhide HB') (unhide HROW)
  | some g =>
    rw [had] at xl0 HRW0
    have hcap : (A.l k).t.length ≤ caps k := by
      rcases unhide HRW0 with ⟨h1, _⟩ | ⟨_, N, f, _, _, _, h1, _⟩
      · simp at h1
      · exact h1
    by_cases hck : caps k = n
    · have hln : (A.l k).t.length = n := by omega
      have xl : X.cell? ⟨gl, k, none⟩ = some (.slice (some ⟨g, 0, none⟩) n n) := by rw [hln, hck] at xl0; exact xl0
      have SZ : Hid (0 = ((A.l k).settle n).t.length) := by show _ = _; rw [← unhide SL2]; omega
      have SL0 : Hid ((doneV ((A.l k).settle n)).length = 0 * 10) := by show _ = _; rw [doneV_len, ← unhide SZ]
      have SD : Hid (doneV ((A.l k).settle n) = []) := List.eq_nil_of_length_eq_zero (by rw [unhide SL0])
      have HLN := hide hln
      clear xl0 had hln hck hcap
      refine wp_region_noPanic ?_
      refine wp_region_held_drew (S := fun w' => w'.cell? ⟨b, 1, none⟩ = some (.slice (some ⟨gl, 0, none⟩) A.n A.n)) (by kernel_rfl) (unhide Y1) (fun hHeld => ?_)
      refine take_at 0 16 (v := ?_) rfl rfl (by kernel_rfl) (by kernel_rfl) (by kernel_rfl) (Or.inl ⟨by rfl, ?_⟩) hHeld ?_
      rotate_left
      · intro w hSw; go_simp; with_reducible rfl
      simp only [Act.put, List.setIfInBounds_toArray, List.set_cons_zero, List.set_cons_succ]
      refine take_at 1 17 (v := ?_) rfl rfl (by kernel_rfl) (by kernel_rfl) (by kernel_rfl) (Or.inl ⟨by rfl, ?_⟩) hHeld ?_
      rotate_left
      · intro w hSw; go_simp; with_reducible rfl
      simp only [Act.put, List.setIfInBounds_toArray, List.set_cons_zero, List.set_cons_succ]
      refine take_at 2 18 (v := ?_) rfl rfl (by kernel_rfl) (by kernel_rfl) (by kernel_rfl) (Or.inl ⟨by rfl, ?_⟩) hHeld ?_
      rotate_left
      · intro w hSw; go_simp; with_reducible rfl
      simp only [Act.put, List.setIfInBounds_toArray, List.set_cons_zero, List.set_cons_succ]
      refine take_at 3 19 (v := ?_) rfl rfl (by kernel_rfl) (by kernel_rfl) (by kernel_rfl) (Or.inl ⟨by rfl, ?_⟩) hHeld ?_
      rotate_left
      · intro w hSw; go_simp; with_reducible rfl
      simp only [Act.put, List.setIfInBounds_toArray, List.set_cons_zero, List.set_cons_succ]
      refine take_at 4 20 (v := ?_) rfl rfl (by kernel_rfl) (by kernel_rfl) (by kernel_rfl) (Or.inl ⟨by rfl, ?_⟩) hHeld ?_
      rotate_left
      · intro w hSw; go_simp; with_reducible rfl
      simp only [Act.put, List.setIfInBounds_toArray, List.set_cons_zero, List.set_cons_succ]
      refine take_at 6 22 (v := ?_) rfl rfl (by kernel_rfl) (by kernel_rfl) (by kernel_rfl) (Or.inl ⟨by rfl, ?_⟩) hHeld ?_
      rotate_left
      · intro w hSw; go_simp; with_reducible rfl
      simp only [Act.put, List.setIfInBounds_toArray, List.set_cons_zero, List.set_cons_succ]
      refine take_at 7 23 (v := ?_) rfl rfl (by kernel_rfl) (by kernel_rfl) (by kernel_rfl) (Or.inl ⟨by rfl, ?_⟩) hHeld ?_
      rotate_left
      · intro w hSw; go_simp; with_reducible rfl
      simp only [Act.put, List.setIfInBounds_toArray, List.set_cons_zero, List.set_cons_succ]
      refine take_at 8 24 (v := ?_) rfl rfl (by kernel_rfl) (by kernel_rfl) (by kernel_rfl) (Or.inl ⟨by rfl, ?_⟩) hHeld ?_
      rotate_left
      · intro w hSw; go_simp; with_reducible rfl
      simp only [Act.put, List.setIfInBounds_toArray, List.set_cons_zero, List.set_cons_succ]
      refine take_at 9 25 (v := ?_) rfl rfl (by kernel_rfl) (by kernel_rfl) (by kernel_rfl) (Or.inl ⟨by rfl, ?_⟩) hHeld ?_
      rotate_left
      · intro w hSw; go_simp; with_reducible rfl
      simp only [Act.put, List.setIfInBounds_toArray, List.set_cons_zero, List.set_cons_succ]
      refine take_at 10 26 (v := ?_) rfl rfl (by kernel_rfl) (by kernel_rfl) (by kernel_rfl) (Or.inl ⟨by rfl, ?_⟩) hHeld ?_
      rotate_left
      · intro w hSw; go_simp; with_reducible rfl
      simp only [Act.put, List.setIfInBounds_toArray, List.set_cons_zero, List.set_cons_succ]
      refine take_at 11 27 (v := ?_) rfl rfl (by kernel_rfl) (by kernel_rfl) (by kernel_rfl) (Or.inl ⟨by rfl, ?_⟩) hHeld ?_
      rotate_left
      · intro w hSw; go_simp; with_reducible rfl
      simp only [Act.put, List.setIfInBounds_toArray, List.set_cons_zero, List.set_cons_succ]
      refine take_at 13 29 (v := ?_) rfl rfl (by kernel_rfl) (by kernel_rfl) (by kernel_rfl) (Or.inl ⟨by rfl, ?_⟩) hHeld ?_
      rotate_left
      · intro w hSw; go_simp; with_reducible rfl
      simp only [Act.put, List.setIfInBounds_toArray, List.set_cons_zero, List.set_cons_succ]
      have hS1 : (X.drew.alloc (.cells #[] 95)).cell? ⟨b, 1, none⟩ = some (.slice (some ⟨gl, 0, none⟩) A.n A.n) := cell_under (w := X.drew) hHeld _
      have HS1 := hide hS1
      clear hS1
      refine wpAnyH_ready (rs := [5, 12]) (by kernel_rfl) (by simp) ?_
      refine AllReadyH.cons rfl (fun K hK => ?_) (AllReadyH.cons rfl (fun K hK => ?_) AllReadyH.nil)
      · go_simp
        refine hK.out _ _ (unhide HS1) (fun hNew => ?_)
        clear hK K
        refine wpAnyH_ready (rs := [12]) (by kernel_rfl) (by simp) ?_
        refine AllReadyH.cons rfl (fun K hK => ?_) AllReadyH.nil
        have cc1 := (World.cell?_alloc_some X ⟨gl, k, none⟩ (.cells #[] 95) (by rw [xl]; rfl)).trans xl
        go_simp
        clear cc1
        refine hK.out _ _ (unhide HS1) (fun hNew2 => ?_)
        clear hK K hNew hHeld
        have hHeld := hNew2
        clear hNew2
        refine take_at 14 30 (v := ?_) rfl rfl (by kernel_rfl) (by kernel_rfl) (by kernel_rfl) (Or.inl ⟨by rfl, ?_⟩) hHeld ?_
        rotate_left
        · intro w hSw; go_simp; with_reducible rfl
        simp only [Act.put, List.setIfInBounds_toArray, List.set_cons_zero, List.set_cons_succ]
        refine wpAnyH_ready (rs := [15]) (by kernel_rfl) (by simp) ?_
        refine AllReadyH.cons rfl (fun K hK => ?_) AllReadyH.nil
        obtain ⟨i0, hi, hz0, hz1, hz2⟩ := info_parts info_done
        refine (if_pos (by rfl)).mpr ?_
        refine wp_append_src (.tmp 21) (.tmp 30) 84 rfl X.heap.size 95 i0 _ 10 24 Try.underlying84 hi hz0 hz1 hz2 rfl (by decide) (.slice (some ⟨X.heap.size, 0, none⟩) 0 0) 0 [] rfl (unhide OW) (some ⟨g, 0, none⟩) 0 0 (doneV ((A.l k).settle n)) rfl (fun h => by simp at h) (unhide SL0) (fun ad h j u hj => by rw [unhide SD] at hj; simp at hj) (doneV_one _) (by unfold maxLen; omega) (by omega) (by simp) ?_
        intro v' w4 hown hgr hnil
        have hw4 : Keeps (fun _ => False) X w4 := Keeps.grown (((Keeps.refl _ _).alloc _).drew) hgr (fun k hk => by simp [Value.ownBlock] at hk; right; omega)
        rw [Nat.zero_add, List.nil_append] at hown
        replace hown : w4.ownsRow X.heap.size 95 10 v' ((A.l k).settle n).t.length (doneV ((A.l k).settle n)) := by rw [← unhide SZ]; exact hown
        obtain ⟨g', cap', rfl, hb', hrow'⟩ := rrow_new hown (hnil (by simp))
        rw [← unhide SL2]
        have HW4 := hide hw4
        have HROW := hide hrow'
        have HB' := hide hb'
        have y4 := (unhide HW4).cellOf (unhide Y1) id
        have l4 := (unhide HW4).cellOf xl id
        have f4 : w4.frozen? ⟨gl, k, none⟩ = false := by rw [World.frozen?_of_block (w := X) ((unhide HW4).block gl (World.block_lt_of_cell? X _ xl) id)]; exact xf
        refine hK.out _ _ y4 (fun hNew => ?_)
        clear hK K hHeld hown hgr hnil hw4 hrow' hb' hi hz0 hz1 hz2 i0
        have hHeld := hNew
        clear hNew
        simp only [Act.put, List.setIfInBounds_toArray]
        refine take_at 16 32 (v := ?_) rfl rfl (by kernel_rfl) (by kernel_rfl) (by kernel_rfl) (Or.inl ⟨by rfl, ?_⟩) hHeld ?_
        rotate_left
        · intro w hSw; go_simp; with_reducible rfl
        simp only [Act.put, List.setIfInBounds_toArray, List.set_cons_zero, List.set_cons_succ]
        refine wpAnyH_ready (rs := [17]) (by kernel_rfl) (by simp) ?_
        refine AllReadyH.cons rfl (fun K hK => ?_) AllReadyH.nil
        go_simp
        refine hK.out _ _ ((World.cell?_setCell_far _ _ _ _ (unhide HGB)).trans y4) (fun hNew => ?_)
        clear hK K hHeld hNew
        refine wpAnyH_done (by kernel_rfl) ?_ _
        refine NoPanic.normal ?_
        clear y4 l4 f4
        go_wp2_with fail
        go_end0
        exact rsure_end (unhide H) k _ hk hn (unhide HKX) (unhide HSB) (unhide HW4) g' cap' (unhide HB') (unhide HROW)
      · go_simp
        refine hK.out _ _ hHeld (fun hNew => ?_)
        clear hK K
        refine take_at 14 30 (v := ?_) rfl rfl (by kernel_rfl) (by kernel_rfl) (by kernel_rfl) (Or.inl ⟨by rfl, ?_⟩) hHeld ?_
        rotate_left
        · intro w hSw; go_simp; with_reducible rfl
        simp only [Act.put, List.setIfInBounds_toArray, List.set_cons_zero, List.set_cons_succ]
        refine wpAnyH_ready (rs := [5]) (by kernel_rfl) (by simp) ?_
        refine AllReadyH.cons rfl (fun K hK => ?_) AllReadyH.nil
        go_simp
        refine hK.out _ _ (unhide HS1) (fun hNew2 => ?_)
        clear hK K hNew hHeld
        have hHeld := hNew2
        clear hNew2
        refine wpAnyH_ready (rs := [15]) (by kernel_rfl) (by simp) ?_
        refine AllReadyH.cons rfl (fun K hK => ?_) AllReadyH.nil
        obtain ⟨i0, hi, hz0, hz1, hz2⟩ := info_parts info_done
        refine (if_pos (by rfl)).mpr ?_
        refine wp_append_src (.tmp 21) (.tmp 30) 84 rfl X.heap.size 95 i0 _ 10 24 Try.underlying84 hi hz0 hz1 hz2 rfl (by decide) (.slice (some ⟨X.heap.size, 0, none⟩) 0 0) 0 [] rfl (unhide OW) (some ⟨g, 0, none⟩) 0 0 (doneV ((A.l k).settle n)) rfl (fun h => by simp at h) (unhide SL0) (fun ad h j u hj => by rw [unhide SD] at hj; simp at hj) (doneV_one _) (by unfold maxLen; omega) (by omega) (by simp) ?_
        intro v' w4 hown hgr hnil
        have hw4 : Keeps (fun _ => False) X w4 := Keeps.grown (((Keeps.refl _ _).alloc _).drew) hgr (fun k hk => by simp [Value.ownBlock] at hk; right; omega)
        rw [Nat.zero_add, List.nil_append] at hown
        replace hown : w4.ownsRow X.heap.size 95 10 v' ((A.l k).settle n).t.length (doneV ((A.l k).settle n)) := by rw [← unhide SZ]; exact hown
        obtain ⟨g', cap', rfl, hb', hrow'⟩ := rrow_new hown (hnil (by simp))
        rw [← unhide SL2]
        have HW4 := hide hw4
        have HROW := hide hrow'
        have HB' := hide hb'
        have y4 := (unhide HW4).cellOf (unhide Y1) id
        have l4 := (unhide HW4).cellOf xl id
        have f4 : w4.frozen? ⟨gl, k, none⟩ = false := by rw [World.frozen?_of_block (w := X) ((unhide HW4).block gl (World.block_lt_of_cell? X _ xl) id)]; exact xf
        refine hK.out _ _ y4 (fun hNew => ?_)
        clear hK K hHeld hown hgr hnil hw4 hrow' hb' hi hz0 hz1 hz2 i0
        have hHeld := hNew
        clear hNew
        simp only [Act.put, List.setIfInBounds_toArray]
        refine take_at 16 32 (v := ?_) rfl rfl (by kernel_rfl) (by kernel_rfl) (by kernel_rfl) (Or.inl ⟨by rfl, ?_⟩) hHeld ?_
        rotate_left
        · intro w hSw; go_simp; with_reducible rfl
        simp only [Act.put, List.setIfInBounds_toArray, List.set_cons_zero, List.set_cons_succ]
        refine wpAnyH_ready (rs := [17]) (by kernel_rfl) (by simp) ?_
        refine AllReadyH.cons rfl (fun K hK => ?_) AllReadyH.nil
        go_simp
        refine hK.out _ _ ((World.cell?_setCell_far _ _ _ _ (unhide HGB)).trans y4) (fun hNew => ?_)
        clear hK K hHeld hNew
        refine wpAnyH_done (by kernel_rfl) ?_ _
        refine NoPanic.normal ?_
        clear y4 l4 f4
        go_wp2_with fail
        go_end0
        exact rsure_end (unhide H) k _ hk hn (unhide HKX) (unhide HSB) (unhide HW4) g' cap' (unhide HB') (unhide HROW)
    · have xl : X.cell? ⟨gl, k, none⟩ = some (.slice (some ⟨g, 0, none⟩) (A.l k).t.length (caps k)) := xl0
      have SCE : Hid (∀ j u, (doneV ((A.l k).settle n))[j]? = some u → (X.alloc (.cells #[] 95)).cell? ⟨g, n * 10 + j, none⟩ = some u) := fun j u hj => cell_under (rrow_cells (unhide HRW0) n hn j u hj) _
      have hnl : (n : Int) ≤ ((A.l k).t.length : Int) := by omega
      clear xl0 had
      refine wp_region_noPanic ?_
      refine wp_region_held_drew (S := fun w' => w'.cell? ⟨b, 1, none⟩ = some (.slice (some ⟨gl, 0, none⟩) A.n A.n)) (by kernel_rfl) (unhide Y1) (fun hHeld => ?_)
      refine take_at 0 16 (v := ?_) rfl rfl (by kernel_rfl) (by kernel_rfl) (by kernel_rfl) (Or.inl ⟨by rfl, ?_⟩) hHeld ?_
      rotate_left
      · intro w hSw; go_simp; with_reducible rfl
      simp only [Act.put, List.setIfInBounds_toArray, List.set_cons_zero, List.set_cons_succ]
      refine take_at 1 17 (v := ?_) rfl rfl (by kernel_rfl) (by kernel_rfl) (by kernel_rfl) (Or.inl ⟨by rfl, ?_⟩) hHeld ?_
      rotate_left
      · intro w hSw; go_simp; with_reducible rfl
      simp only [Act.put, List.setIfInBounds_toArray, List.set_cons_zero, List.set_cons_succ]
      refine take_at 2 18 (v := ?_) rfl rfl (by kernel_rfl) (by kernel_rfl) (by kernel_rfl) (Or.inl ⟨by rfl, ?_⟩) hHeld ?_
      rotate_left
      · intro w hSw; go_simp; with_reducible rfl
      simp only [Act.put, List.setIfInBounds_toArray, List.set_cons_zero, List.set_cons_succ]
      refine take_at 3 19 (v := ?_) rfl rfl (by kernel_rfl) (by kernel_rfl) (by kernel_rfl) (Or.inl ⟨by rfl, ?_⟩) hHeld ?_
      rotate_left
      · intro w hSw; go_simp; with_reducible rfl
      simp only [Act.put, List.setIfInBounds_toArray, List.set_cons_zero, List.set_cons_succ]
      refine take_at 4 20 (v := ?_) rfl rfl (by kernel_rfl) (by kernel_rfl) (by kernel_rfl) (Or.inl ⟨by rfl, ?_⟩) hHeld ?_
      rotate_left
      · intro w hSw; go_simp; with_reducible rfl
      simp only [Act.put, List.setIfInBounds_toArray, List.set_cons_zero, List.set_cons_succ]
      refine take_at 6 22 (v := ?_) rfl rfl (by kernel_rfl) (by kernel_rfl) (by kernel_rfl) (Or.inl ⟨by rfl, ?_⟩) hHeld ?_
      rotate_left
      · intro w hSw; go_simp; with_reducible rfl
      simp only [Act.put, List.setIfInBounds_toArray, List.set_cons_zero, List.set_cons_succ]
      refine take_at 7 23 (v := ?_) rfl rfl (by kernel_rfl) (by kernel_rfl) (by kernel_rfl) (Or.inl ⟨by rfl, ?_⟩) hHeld ?_
      rotate_left
      · intro w hSw; go_simp; with_reducible rfl
      simp only [Act.put, List.setIfInBounds_toArray, List.set_cons_zero, List.set_cons_succ]
      refine take_at 8 24 (v := ?_) rfl rfl (by kernel_rfl) (by kernel_rfl) (by kernel_rfl) (Or.inl ⟨by rfl, ?_⟩) hHeld ?_
      rotate_left
      · intro w hSw; go_simp; with_reducible rfl
      simp only [Act.put, List.setIfInBounds_toArray, List.set_cons_zero, List.set_cons_succ]
      refine take_at 9 25 (v := ?_) rfl rfl (by kernel_rfl) (by kernel_rfl) (by kernel_rfl) (Or.inl ⟨by rfl, ?_⟩) hHeld ?_
      rotate_left
      · intro w hSw; go_simp; with_reducible rfl
      simp only [Act.put, List.setIfInBounds_toArray, List.set_cons_zero, List.set_cons_succ]
      refine take_at 10 26 (v := ?_) rfl rfl (by kernel_rfl) (by kernel_rfl) (by kernel_rfl) (Or.inl ⟨by rfl, ?_⟩) hHeld ?_
      rotate_left
      · intro w hSw; go_simp; with_reducible rfl
      simp only [Act.put, List.setIfInBounds_toArray, List.set_cons_zero, List.set_cons_succ]
      refine take_at 11 27 (v := ?_) rfl rfl (by kernel_rfl) (by kernel_rfl) (by kernel_rfl) (Or.inl ⟨by rfl, ?_⟩) hHeld ?_
      rotate_left
      · intro w hSw; go_simp; with_reducible rfl
      simp only [Act.put, List.setIfInBounds_toArray, List.set_cons_zero, List.set_cons_succ]
      refine take_at 13 29 (v := ?_) rfl rfl (by kernel_rfl) (by kernel_rfl) (by kernel_rfl) (Or.inl ⟨by rfl, ?_⟩) hHeld ?_
      rotate_left
      · intro w hSw; go_simp; with_reducible rfl
      simp only [Act.put, List.setIfInBounds_toArray, List.set_cons_zero, List.set_cons_succ]
      have hS1 : (X.drew.alloc (.cells #[] 95)).cell? ⟨b, 1, none⟩ = some (.slice (some ⟨gl, 0, none⟩) A.n A.n) := cell_under (w := X.drew) hHeld _
      have HS1 := hide hS1
      clear hS1
      refine wpAnyH_ready (rs := [5, 12]) (by kernel_rfl) (by simp) ?_
      refine AllReadyH.cons rfl (fun K hK => ?_) (AllReadyH.cons rfl (fun K hK => ?_) AllReadyH.nil)
      · go_simp
        refine hK.out _ _ (unhide HS1) (fun hNew => ?_)
        clear hK K
        refine wpAnyH_ready (rs := [12]) (by kernel_rfl) (by simp) ?_
        refine AllReadyH.cons rfl (fun K hK => ?_) AllReadyH.nil
        have cc1 := (World.cell?_alloc_some X ⟨gl, k, none⟩ (.cells #[] 95) (by rw [xl]; rfl)).trans xl
        go_simp
        clear cc1
        refine hK.out _ _ (unhide HS1) (fun hNew2 => ?_)
        clear hK K hNew hHeld
        have hHeld := hNew2
        clear hNew2
        refine take_at 14 30 (v := ?_) rfl rfl (by kernel_rfl) (by kernel_rfl) (by kernel_rfl) (Or.inl ⟨by rfl, ?_⟩) hHeld ?_
        rotate_left
        · intro w hSw; go_simp; with_reducible rfl
        simp only [Act.put, List.setIfInBounds_toArray, List.set_cons_zero, List.set_cons_succ]
        refine wpAnyH_ready (rs := [15]) (by kernel_rfl) (by simp) ?_
        refine AllReadyH.cons rfl (fun K hK => ?_) AllReadyH.nil
        obtain ⟨i0, hi, hz0, hz1, hz2⟩ := info_parts info_done
        refine (if_pos (by rfl)).mpr ?_
        refine wp_append_src (.tmp 21) (.tmp 30) 84 rfl X.heap.size 95 i0 _ 10 24 Try.underlying84 hi hz0 hz1 hz2 rfl (by decide) (.slice (some ⟨X.heap.size, 0, none⟩) 0 0) 0 [] rfl (unhide OW) (some ⟨g, n * 10, none⟩) ((A.l k).t.length - n) (caps k - n) (doneV ((A.l k).settle n)) rfl (fun h => by simp at h) (unhide SLEN) (fun ad h j u hj => by cases h; rw [Addr.add_mid]; exact unhide SCE j u hj) (doneV_one _) (by unfold maxLen; omega) (by omega) (by simp) ?_
        intro v' w4 hown hgr hnil
        have hw4 : Keeps (fun _ => False) X w4 := Keeps.grown (((Keeps.refl _ _).alloc _).drew) hgr (fun k hk => by simp [Value.ownBlock] at hk; right; omega)
        rw [Nat.zero_add, List.nil_append, unhide SL2] at hown
        obtain ⟨g', cap', rfl, hb', hrow'⟩ := rrow_new hown (hnil (by simp))
        rw [← unhide SL2]
        have HW4 := hide hw4
        have HROW := hide hrow'
        have HB' := hide hb'
        have y4 := (unhide HW4).cellOf (unhide Y1) id
        have l4 := (unhide HW4).cellOf xl id
        have f4 : w4.frozen? ⟨gl, k, none⟩ = false := by rw [World.frozen?_of_block (w := X) ((unhide HW4).block gl (World.block_lt_of_cell? X _ xl) id)]; exact xf
        refine hK.out _ _ y4 (fun hNew => ?_)
        clear hK K hHeld hown hgr hnil hw4 hrow' hb' hi hz0 hz1 hz2 i0
        have hHeld := hNew
        clear hNew
        simp only [Act.put, List.setIfInBounds_toArray]
        refine take_at 16 32 (v := ?_) rfl rfl (by kernel_rfl) (by kernel_rfl) (by kernel_rfl) (Or.inl ⟨by rfl, ?_⟩) hHeld ?_
        rotate_left
        · intro w hSw; go_simp; with_reducible rfl
        simp only [Act.put, List.setIfInBounds_toArray, List.set_cons_zero, List.set_cons_succ]
        refine wpAnyH_ready (rs := [17]) (by kernel_rfl) (by simp) ?_
        refine AllReadyH.cons rfl (fun K hK => ?_) AllReadyH.nil
        go_simp
        refine hK.out _ _ ((World.cell?_setCell_far _ _ _ _ (unhide HGB)).trans y4) (fun hNew => ?_)
        clear hK K hHeld hNew
        refine wpAnyH_done (by kernel_rfl) ?_ _
        refine NoPanic.normal ?_
        clear y4 l4 f4
        go_wp2_with fail
        go_end0
        exact rsure_end (unhide H) k _ hk hn (unhide HKX) (unhide HSB) (unhide HW4) g' cap' (unhide HB') (unhide HROW)
      · go_simp
        refine hK.out _ _ hHeld (fun hNew => ?_)
        clear hK K
        refine take_at 14 30 (v := ?_) rfl rfl (by kernel_rfl) (by kernel_rfl) (by kernel_rfl) (Or.inl ⟨by rfl, ?_⟩) hHeld ?_
        rotate_left
        · intro w hSw; go_simp; with_reducible rfl
        simp only [Act.put, List.setIfInBounds_toArray, List.set_cons_zero, List.set_cons_succ]
        refine wpAnyH_ready (rs := [5]) (by kernel_rfl) (by simp) ?_
        refine AllReadyH.cons rfl (fun K hK => ?_) AllReadyH.nil
        go_simp
        refine hK.out _ _ (unhide HS1) (fun hNew2 => ?_)
        clear hK K hNew hHeld
        have hHeld := hNew2
        clear hNew2
        refine wpAnyH_ready (rs := [15]) (by kernel_rfl) (by simp) ?_
        refine AllReadyH.cons rfl (fun K hK => ?_) AllReadyH.nil
        obtain ⟨i0, hi, hz0, hz1, hz2⟩ := info_parts info_done
        refine (if_pos (by rfl)).mpr ?_
        refine wp_append_src (.tmp 21) (.tmp 30) 84 rfl X.heap.size 95 i0 _ 10 24 Try.underlying84 hi hz0 hz1 hz2 rfl (by decide) (.slice (some ⟨X.heap.size, 0, none⟩) 0 0) 0 [] rfl (unhide OW) (some ⟨g, n * 10, none⟩) ((A.l k).t.length - n) (caps k - n) (doneV ((A.l k).settle n)) rfl (fun h => by simp at h) (unhide SLEN) (fun ad h j u hj => by cases h; rw [Addr.add_mid]; exact unhide SCE j u hj) (doneV_one _) (by unfold maxLen; omega) (by omega) (by simp) ?_
        intro v' w4 hown hgr hnil
        have hw4 : Keeps (fun _ => False) X w4 := Keeps.grown (((Keeps.refl _ _).alloc _).drew) hgr (fun k hk => by simp [Value.ownBlock] at hk; right; omega)
        rw [Nat.zero_add, List.nil_append, unhide SL2] at hown
        obtain ⟨g', cap', rfl, hb', hrow'⟩ := rrow_new hown (hnil (by simp))
        rw [← unhide SL2]
        have HW4 := hide hw4
        have HROW := hide hrow'
        have HB' := hide hb'
        have y4 := (unhide HW4).cellOf (unhide Y1) id
        have l4 := (unhide HW4).cellOf xl id
        have f4 : w4.frozen? ⟨gl, k, none⟩ = false := by rw [World.frozen?_of_block (w := X) ((unhide HW4).block gl (World.block_lt_of_cell? X _ xl) id)]; exact xf
        refine hK.out _ _ y4 (fun hNew => ?_)
        clear hK K hHeld hown hgr hnil hw4 hrow' hb' hi hz0 hz1 hz2 i0
        have hHeld := hNew
        clear hNew
        simp only [Act.put, List.setIfInBounds_toArray]
        refine take_at 16 32 (v := ?_) rfl rfl (by kernel_rfl) (by kernel_rfl) (by kernel_rfl) (Or.inl ⟨by rfl, ?_⟩) hHeld ?_
        rotate_left
        · intro w hSw; go_simp; with_reducible rfl
        simp only [Act.put, List.setIfInBounds_toArray, List.set_cons_zero, List.set_cons_succ]
        refine wpAnyH_ready (rs := [17]) (by kernel_rfl) (by simp) ?_
        refine AllReadyH.cons rfl (fun K hK => ?_) AllReadyH.nil
        go_simp
        refine hK.out _ _ ((World.cell?_setCell_far _ _ _ _ (unhide HGB)).trans y4) (fun hNew => ?_)
        clear hK K hHeld hNew
        refine wpAnyH_done (by kernel_rfl) ?_ _
        refine NoPanic.normal ?_
        clear y4 l4 f4
        go_wp2_with fail
        go_end0
        exact rsure_end (unhide H) k _ hk hn (unhide HKX) (unhide HSB) (unhide HW4) g' cap' (unhide HB') (unhide HROW)
end

end Go.Proofs.Ytmmgacpipcgkdaa
