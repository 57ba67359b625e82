
/-
  What the closures of Flush and Fence do to a memory.
-/
import Derived.Test.YtjidekjeibdbgaaNStore
namespace Go.Proofs.Ytjidekjeibdbgaa
open Go.ChangeShapes Go.WideShapes Go.ChangeAt Go.RowKit Go.Joins
set_option linter.unusedVariables false
set_option linter.unusedSimpArgs false

/-- One line is another one, its stores in the block where they were. -/
theorem Rep.line_same {w w' : World} {F : Nat → Prop} {b c : Nat} {A : Mm} {cs : Nat → Cel} (h : Rep w F b A c cs) (k : Nat) (hk : k < A.n) (C' : Cel) (hK : Keeps (· = c) w w')
    (hbl : Blk w' c (A.n * 25) 80 (putC (encF cs) (k * 25) C')) (hrow : Row 86 w' C') (hblk : ∀ g, C'.blk = some g → (cs k).blk = some g) :
    Rep w' F b ⟨A.n, upd A.l k C'.l, A.on, A.fuse, A.steps⟩ c (upd cs k C') := by
  have h1 := h.line k hk C' hK (fun x hx => Or.inl hx) hbl hrow (fun g hg => Or.inl (hblk g hg))
  exact h1.more (fun x hx => hx.elim id fun e => (h.ap k hk x (hblk x e)).2.2) (fun x hx => h1.lt x (Or.inl hx))

theorem Row.of_t {T : TypeId} {w : World} {C C' : Cel} (h : Row T w C) (h1 : C'.ad = C.ad) (h2 : C'.cap = C.cap) (h3 : C'.l.t = C.l.t) : Row T w C' := by
  unfold Row at *
  rw [h1, h2, h3]
  rcases h with h | ⟨g, off, cur, a1, a2, a3, a4, a5, a6⟩
  · exact Or.inl h
  · exact Or.inr ⟨g, off, cur, a1, a2, a3, a4, a5, fun j hj => by
      have := a6 j hj
      simpa [h3] using this⟩
theorem put_flush (cs : Nat → Cel) (k q : Nat) (hq : q < 8) (i : Nat) :
    upd (encF cs) (k * 25 + 17 + q) (.int .i64 ((cs k).l.t.length : Int)) i = putC (encF cs) (k * 25) ⟨(cs k).l.flush q, (cs k).ad, (cs k).cap⟩ i := by
  unfold putC
  by_cases h1 : i = k * 25 + 17 + q
  · subst h1
    rw [upd_same, if_pos (by omega), show k * 25 + 17 + q - k * 25 = 17 + q by omega]
    simp [encAt, show ¬ (17 + q < 8) by omega, show ¬ (17 + q < 16) by omega, show ¬ (17 + q = 16) by omega, Ln.flush, upd]
  · rw [upd_other _ _ _ _ h1]
    by_cases h3 : k * 25 ≤ i ∧ i < k * 25 + 25
    · rw [if_pos h3]
      obtain ⟨j, rfl⟩ : ∃ j, i = k * 25 + j := ⟨i - k * 25, by omega⟩
      rw [encF_at _ _ _ (by omega), show k * 25 + j - k * 25 = j by omega]
      unfold encAt
      by_cases h4 : j < 8
      · rw [if_pos h4, if_pos h4]; rfl
      · by_cases h5 : j < 16
        · rw [if_neg h4, if_neg h4, if_pos h5, if_pos h5]; rfl
        · by_cases h6 : j = 16
          · subst h6; rfl
          · rw [if_neg h4, if_neg h4, if_neg h5, if_neg h5, if_neg h6, if_neg h6]
            show _ = Value.int _ ((upd (cs k).l.f q _ (j - 17) : Nat) : Int)
            rw [upd_other _ _ _ _ (by omega)]
    · rw [if_neg h3]

theorem flushDo {w : World} {F : Nat → Prop} {b c : Nat} {A : Mm} {cs : Nat → Cel} (h : Rep w F b A c cs) (k q : Nat) (hk : k < A.n) (hq : q < 8) (hlen : (A.l k).t.length ≤ 1000000) (hn : A.n ≤ 1024)
    (Bm Bl Bc : Nat) (cm : w.cell? ⟨Bm, 0, none⟩ = some (.pointer (some ⟨b, 0, none⟩))) (cl : w.cell? ⟨Bl, 0, none⟩ = some (.int .i64 k)) (cw : w.cell? ⟨Bc, 0, none⟩ = some (.int .i64 q)) :
    Calls Try.prog 69 #[.pointer (some ⟨Bm, 0, none⟩), .pointer (some ⟨Bl, 0, none⟩), .pointer (some ⟨Bc, 0, none⟩)] w (Went F w b c ⟨A.n, upd A.l k ((A.l k).flush q), A.on, A.fuse, A.steps⟩ (.tuple #[])) := by
  obtain ⟨K0, c0⟩ := h.c0
  have cc := h.lenc k hk
  have cq := h.cel k hk (17 + q) (by omega)
  have fq := h.bl.free (k * 25 + 17 + q)
  rw [← Nat.add_assoc] at cq
  generalize encAt (cs k) (17 + q) = old at *
  have hk' : (k : Int) < (A.n : Int) := by omega
  have q0 : (0 : Int) ≤ (q : Int) := by omega
  have q8 : (q : Int) < 8 := by omega
  have H := hide h
  clear h
  go_enter Try.func69, Try.ntmps69
  go_wp2
  go_region
  go_wp2
  go_region
  go_wp2
  go_end0
  refine ⟨rfl, F, _, (unhide H).line_same k hk ⟨(A.l k).flush q, (cs k).ad, (cs k).cap⟩ (Keeps.setCell (F := (· = c)) (p := ⟨c, k * 25 + 17 + q, none⟩) (Keeps.refl _ _) rfl _).drew.drew ?_ ?_ (fun g hg => hg), (Keeps.setCell (F := F) (p := ⟨c, k * 25 + 17 + q, none⟩) (Keeps.refl _ _) (unhide H).fc _).drew.drew, Grew.refl _ _⟩
  · refine (((unhide H).bl.set (k * 25 + 17 + q) _).drew.drew).ext fun i _ => ?_
    rw [← (unhide H).ln k]; exact put_flush cs k q hq i
  · have hr := ((unhide H).row k hk).keeps (F := (· = c)) (Keeps.setCell (F := (· = c)) (p := ⟨c, k * 25 + 17 + q, none⟩) (Keeps.refl _ _) rfl (.int .i64 ((A.l k).t.length : Int))).drew.drew fun x hx e => ((unhide H).ap k hk x hx).2.1 e
    exact hr.of_t rfl rfl (by rw [(unhide H).ln k]; rfl)

/-- The lines of which the first k are settled by a core's Fence. -/
def fenceTo (A : Mm) (q k : Nat) : Nat → Ln := fun i => if i < k then (A.l i).settle ((A.l i).f q) else A.l i

theorem Rep.lines {w : World} {F : Nat → Prop} {b c : Nat} {A A' : Mm} {cs : Nat → Cel} (h : Rep w F b A c cs) (hn : A'.n = A.n) (h1 : A'.on = A.on) (h2 : A'.fuse = A.fuse) (h3 : A'.steps = A.steps) (hl : ∀ i, i < A.n → A'.l i = A.l i) :
    ∃ cs', Rep w F b A' c cs' := by
  refine ⟨fun i => if i < A.n then cs i else ⟨A'.l i, none, 0⟩, ?_, ?_, ?_, ?_, h.bc, ?_, ?_, h.fb, h.fc, h.lt⟩
  · obtain ⟨K, hd⟩ := h.hd
    have : headOf A' c K = headOf A c K := by unfold headOf; rw [hn, h1, h2, h3]
    exact ⟨K, by rw [this]; exact hd⟩
  · rw [hn]
    refine h.bl.ext fun i hi => ?_
    unfold encF
    simp only [show i / 25 < A.n by omega, if_true]
  · intro i
    by_cases hi : i < A.n
    · simp only [hi, if_true]; rw [h.ln i, hl i hi]
    · simp only [hi, if_false]
  · intro i hi
    rw [hn] at hi
    simp only [hi, if_true]; exact h.row i hi
  · intro i hi g hg
    rw [hn] at hi
    simp only [hi, if_true] at hg; exact h.ap i hi g hg
  · intro i j hi hj hij g hg
    rw [hn] at hi hj
    simp only [hi, hj, if_true] at hg ⊢; exact h.dj i j hi hj hij g hg

theorem fenceDo {w : World} {F : Nat → Prop} {b c : Nat} {A : Mm} {cs : Nat → Cel} (h : Rep w F b A c cs) (q : Nat) (hq : q < 8) (hok : ∀ i, (A.l i).ok) (hlen : ∀ i, (A.l i).t.length ≤ 1000000) (hn : A.n ≤ 1024)
    (Bm Bc : Nat) (cm : w.cell? ⟨Bm, 0, none⟩ = some (.pointer (some ⟨b, 0, none⟩))) (cw : w.cell? ⟨Bc, 0, none⟩ = some (.int .i64 q)) (hBm : ¬ F Bm) (hBc : ¬ F Bc) :
    Calls Try.prog 70 #[.pointer (some ⟨Bm, 0, none⟩), .pointer (some ⟨Bc, 0, none⟩)] w (Went F w b c ⟨A.n, fun i => (A.l i).settle ((A.l i).f q), A.on, A.fuse, A.steps⟩ (.tuple #[])) := by
  obtain ⟨K0, c0⟩ := h.c0
  have H := hide h
  clear h
  go_enter Try.func70, Try.ntmps70
  go_wp2
  go_loopw [9] (fun i wr => ∃ k : Nat, k ≤ A.n ∧ i = .int .i64 k ∧ ∃ cr, Rep wr F b ⟨A.n, fenceTo A q k, A.on, A.fuse, A.steps⟩ c cr ∧ Keeps F w wr) (fun i _ => A.n - (intOf i).toNat)
  case atStart =>
    refine ⟨0, by omega, rfl, cs, ?_, Keeps.refl _ _⟩
    have : fenceTo A q 0 = A.l := by funext i; simp [fenceTo]
    rw [this]; exact unhide H
  case round =>
    clear c0
    obtain ⟨k, hk, rfl, cr, hr, hkp⟩ := hrel
    obtain ⟨K0, c0⟩ := hr.c0
    have cm1 := hkp.cellOf cm hBm
    have cw1 := hkp.cellOf cw hBc
    by_cases hlt : k < A.n
    · have hlk : (cr k).l = A.l k := by rw [hr.ln k]; simp [fenceTo]
      have cf := hr.cel k hlt (17 + q) (by omega)
      rw [← Nat.add_assoc, show encAt (cr k) (17 + q) = .int .i64 ((A.l k).f q : Nat) by simp [encAt, hlk, show ¬ (17 + q < 8) by omega, show ¬ (17 + q < 16) by omega, show ¬ (17 + q = 16) by omega]] at cf
      have hcb : (cr k).blk ≠ some c := fun e => (hr.ap k hlt c e).2.1 rfl
      have HC : Hid (Calls Try.prog 39 #[.pointer (some ⟨c, k * 25, none⟩), .int .i64 ((A.l k).f q : Nat)] wr.drew fun e w' => e = .returned (.tuple #[]) ∧ Blk w' c (A.n * 25) 80 (putC (encF cr) (k * 25) ((cr k).settle ((A.l k).f q))) ∧ Keeps (· = c) wr.drew w') :=
        settle_any (cr k) (by rw [hlk]; exact hok k) _ (by rw [hlk]; exact (hok k).2.2 q) (by rw [hlk]; have := hlen k; omega) c (k * 25) (A.n * 25) (encF cr) wr.drew (by omega)
          hr.bl.drew (fun j hj => encF_at _ _ _ hj) ((hr.row k hlt).keeps (F := fun _ => False) (Keeps.refl _ _).drew fun _ _ => id) hcb
      have hbc : Bc ≠ c := fun e => hBc (e ▸ hr.fc)
      have HNX : Hid (∀ w', Blk w' c (A.n * 25) 80 (putC (encF cr) (k * 25) ((cr k).settle ((A.l k).f q))) → Keeps (· = c) wr.drew w' → ∃ cr', Rep w' F b ⟨A.n, fenceTo A q (k + 1), A.on, A.fuse, A.steps⟩ c cr' ∧ Keeps F w w') := fun w' hb' hk' => by
        have hkd : Keeps (· = c) wr w' := (Keeps.refl (· = c) wr).drew.trans' hk'
        refine ⟨upd cr k ((cr k).settle ((A.l k).f q)), ?_, hkp.trans' (hkd.mono fun x _ e => by rw [e]; exact hr.fc)⟩
        have := hr.line_same k hlt ((cr k).settle ((A.l k).f q)) hkd hb' (((hr.row k hlt).settle _ (by rw [hlk]; exact (hok k).2.2 q)).keeps hkd fun g hg e => by rw [Cel.settle_blk] at hg; exact (hr.ap k hlt g hg).2.1 e) (fun g hg => by rw [Cel.settle_blk] at hg; exact hg)
        have e : upd (fenceTo A q k) k ((cr k).settle ((A.l k).f q)).l = fenceTo A q (k + 1) := by
          funext i
          show upd (fenceTo A q k) k ((cr k).l.settle ((A.l k).f q)) i = _
          rw [hlk]
          unfold fenceTo
          by_cases hi : i = k
          · subst hi; rw [upd_same, if_pos (by omega)]
          · rw [upd_other _ _ _ _ hi]
            by_cases h2 : i < k
            · rw [if_pos h2, if_pos (by omega)]
            · rw [if_neg h2, if_neg (by omega)]
        rw [← e]; exact this
      clear hr hkp
      go_wp2
      refine wp_region_noPanic ?_
      refine wp_region_held_drew (S := fun w' => w'.cell? ⟨Bc, 0, none⟩ = some (.int .i64 q)) (by kernel_rfl) cw1 (fun hHeld => ?_)
      have q0 : (0 : Int) ≤ (q : Int) := by omega
      have q8 : (q : Int) < 8 := by omega
      refine take_at 0 18 (v := ?_) rfl rfl (by kernel_rfl) (by kernel_rfl) (by kernel_rfl) (Or.inl ⟨by rfl, ?_⟩) hHeld ?_
      rotate_left
      · intro w hSw; go_simp; with_reducible rfl
      simp only [Act.put, List.setIfInBounds_toArray, List.set_cons_zero, List.set_cons_succ]
      refine take_at 1 19 (v := ?_) rfl rfl (by kernel_rfl) (by kernel_rfl) (by kernel_rfl) (Or.inl ⟨by rfl, ?_⟩) hHeld ?_
      rotate_left
      · intro w hSw; go_simp; with_reducible rfl
      simp only [Act.put, List.setIfInBounds_toArray, List.set_cons_zero, List.set_cons_succ]
      refine take_at 2 20 (v := ?_) rfl rfl (by kernel_rfl) (by kernel_rfl) (by kernel_rfl) (Or.inl ⟨by rfl, ?_⟩) hHeld ?_
      rotate_left
      · intro w hSw; go_simp; with_reducible rfl
      simp only [Act.put, List.setIfInBounds_toArray, List.set_cons_zero, List.set_cons_succ]
      refine take_at 3 21 (v := ?_) rfl rfl (by kernel_rfl) (by kernel_rfl) (by kernel_rfl) (Or.inl ⟨by rfl, ?_⟩) hHeld ?_
      rotate_left
      · intro w hSw; go_simp; with_reducible rfl
      simp only [Act.put, List.setIfInBounds_toArray, List.set_cons_zero, List.set_cons_succ]
      refine take_at 4 22 (v := ?_) rfl rfl (by kernel_rfl) (by kernel_rfl) (by kernel_rfl) (Or.inl ⟨by rfl, ?_⟩) hHeld ?_
      rotate_left
      · intro w hSw; go_simp; with_reducible rfl
      simp only [Act.put, List.setIfInBounds_toArray, List.set_cons_zero, List.set_cons_succ]
      refine take_at 5 23 (v := ?_) rfl rfl (by kernel_rfl) (by kernel_rfl) (by kernel_rfl) (Or.inl ⟨by rfl, ?_⟩) hHeld ?_
      rotate_left
      · intro w hSw; go_simp; with_reducible rfl
      simp only [Act.put, List.setIfInBounds_toArray, List.set_cons_zero, List.set_cons_succ]
      refine wpAnyH_ready (rs := [6]) (by kernel_rfl) (by simp) ?_
      refine AllReadyH.cons rfl (fun K hK => ?_) AllReadyH.nil
      go_simp
      refine hK.out _ _ hHeld (fun hNew => ?_)
      clear hK K hNew
      refine wpAnyH_ready (rs := [7]) (by kernel_rfl) (by simp) ?_
      refine AllReadyH.cons rfl (fun K hK => ?_) AllReadyH.nil
      go_simp
      refine (unhide HC).mono ?_
      rintro e w' ⟨rfl, hb', hk'⟩
      go_wp2_with fail
      refine hK.out _ _ (hk'.cellOf (w := wr.drew) cw1 hbc) (fun hNew => ?_)
      clear hK K hHeld hNew
      refine wpAnyH_done (by kernel_rfl) ?_ _
      refine NoPanic.normal ?_
      obtain ⟨cr', hr', hkp'⟩ := unhide HNX w' hb' hk'
      have HR' := hide hr'
      have HK' := hide hkp'
      clear hb' hk' hr' hkp' HC HNX c0 cm1 cw1 cf
      go_wp2
      go_roundw
      case rel => exact ⟨k + 1, by omega, by go_num, cr', unhide HR', unhide HK'⟩
      case measure => simp [intOf]; omega
    · obtain rfl : k = A.n := by omega
      have HR := hide hr
      have HK := hide hkp
      clear hr hkp
      go_wp2
      go_end0
      obtain ⟨cr', hr'⟩ := (unhide HR).lines (A' := ⟨A.n, fun i => (A.l i).settle ((A.l i).f q), A.on, A.fuse, A.steps⟩) rfl rfl rfl rfl (fun i hi => by simp [fenceTo, show i < A.n from hi])
      exact ⟨rfl, F, cr', hr', unhide HK, Grew.refl _ _⟩

end Go.Proofs.Ytjidekjeibdbgaa
