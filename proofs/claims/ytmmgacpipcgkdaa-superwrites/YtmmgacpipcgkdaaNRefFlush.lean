
/-
  What the document's Flush and Fence do.
-/
import Derived.Test.YtmmgacpipcgkdaaNRefLoad
namespace Go.Proofs.Ytmmgacpipcgkdaa
open Go.ChangeShapes Go.WideShapes Go.ChangeAt Go.RowKit Go.Joins
set_option maxRecDepth 10000
set_option linter.unusedVariables false
set_option linter.unusedSimpArgs false

theorem step_off (A : Mm) (l : Nat → Ln) (h : A.may = false) : A.step l = A.off := by unfold Mm.step; rw [h]; rfl
theorem step_on (A : Mm) (l : Nat → Ln) (h : A.may = true) : A.step l = A.stepped l := by unfold Mm.step; rw [h]; rfl
theorem err_off (A : Mm) (h : A.may = false) : A.err = 4 := by unfold Mm.err; rw [h]; rfl
theorem err_on (A : Mm) (h : A.may = true) : A.err = 0 := by unfold Mm.err; rw [h]; rfl

def flF (f : Nat → Value) (c J : Nat) : Nat → Value := fun i => if i % 10 = 2 + c ∧ i / 10 < J then .bool true else f i

section
variable {w : World} {F : Nat → Prop} {b gs cs gl : Nat} {A : Mm} {ads : Nat → Option Nat} {caps : Nat → Nat}

/-- All stores of a line are flushed by a core. -/
theorem rflush_end {w' : World} (h : RRep w F b A gs cs gl ads caps) (k c : Nat) (hk : k < A.n) (hc : c < 8) (hK : Keeps (fun x => ads k = some x) w w')
    (hf : ∀ g N f, ads k = some g → Blk w g N 95 f → Blk w' g N 95 (flF f c (A.l k).t.length)) :
    ∃ F' ads' caps', RRep w' F' b ⟨A.n, upd A.l k ((A.l k).flush c), A.on, A.fuse, A.steps⟩ gs cs gl ads' caps' ∧ Keeps F w w' ∧ Grew F w F' := by
  obtain ⟨N, f, b1, b2, _, b3⟩ := h.sb
  refine ⟨_, _, _, h.line k hk ((A.l k).flush c) (ads k) (caps k) hK (fun x hx => Or.inr (Or.inr hx)) ⟨N, f, b1.keeps hK (fun e => (h.ap k hk _ e).2.1 rfl), b2, fun i hi => ?_⟩ ?_ ?_ (fun g hg => Or.inl hg), hK.mono fun x _ hx => (h.ap k hk x hx).2.2.2, fun x hx => Or.inl (hx.elim id fun e => (h.ap k hk x e).2.2.2)⟩
  · rw [b3 i hi]
    by_cases e : i / 8 = k
    · rw [e, upd_same]; rfl
    · rw [upd_other _ _ _ _ e]
  · refine (h.lb.keeps hK (fun e => (h.ap k hk _ e).2.2.1 rfl)).ext fun i _ => ?_
    by_cases e : i = k
    · subst e; rw [upd_same]; rfl
    · rw [upd_other _ _ _ _ e]
  · rcases h.row k hk with ⟨h1, h2, h3⟩ | ⟨g, N, f, h1, h2, h3, h4, h5, h6⟩
    · exact Or.inl ⟨h1, h2, h3⟩
    · refine Or.inr ⟨g, N, _, h1, hf g N f h1 h2, h3, h4, h5, fun j d hj hd => ?_⟩
      have hj' : j < (A.l k).t.length := hj
      unfold flF
      by_cases e : d = 2 + c
      · rw [if_pos ⟨by omega, by omega⟩, e]
        simp [doneAt, Ln.flush, show ¬ (2 + c = 0) by omega, show ¬ (2 + c = 1) by omega, upd, hj']
      · rw [if_neg (fun h => by omega), h6 j d hj' hd]
        unfold doneAt
        by_cases d0 : d = 0
        · simp [d0, Ln.flush]
        · by_cases d1 : d = 1
          · simp [d1, Ln.flush]
          · simp only [d0, d1, if_false]
            exact congrArg Value.bool (decide_eq_decide.2 (by show j < _ ↔ j < upd (A.l k).f c (A.l k).t.length (d - 2); rw [upd_other _ _ _ _ (by omega)]))

theorem rflush_good (h : RRep w F b A gs cs gl ads caps) (hok : A.ok 1000) (c k : Nat) (hc : c < 8) (hk : k < A.n) :
    Calls Try.prog 39 #[.pointer (some ⟨b, 0, none⟩), .int .i64 c, .int .i64 k] w (RWent F w b gs cs gl (A.flush c k) (.int .i64 A.err)) := by
  obtain ⟨o1, o2, o3, o4, o5, o6, o7⟩ := hok
  have D1 : decide ((0 : Int) ≤ (k : Int) ∧ (k : Int) < (A.n : Int)) = true := by simp; omega
  have hk' : (k : Int) < (A.n : Int) := by omega
  have hc' : ¬ ((7 : Int) < (c : Int)) := by omega
  have hc8 : (c : Int) < 8 := by omega
  have H := hide h
  have CT := hide (rstep_any h (by omega) o5 o6)
  clear h
  by_cases hm : A.may = true
  · have he := err_on A hm
    have HSF : Hid (A.flush c k = ⟨A.n, upd A.l k ((A.l k).flush c), (A.stepped A.l).on, (A.stepped A.l).fuse, (A.stepped A.l).steps⟩) := step_on A _ hm
    have HSL := hide (step_on A A.l hm)
    go_enter Try.func39, Try.ntmps39
    go_wp2_with fail
    refine (ris_any (unhide H) _).mono ?_
    rintro e w1 ⟨rfl, rfl⟩
    rw [D1]
    go_wp2_with fail
    refine (unhide CT).mono ?_
    rintro e w1 ⟨rfl, hr1, hk1⟩
    rw [unhide HSL] at hr1
    have HR1 := hide hr1
    have HK1 := hide hk1
    rw [he]
    clear hr1 hk1 CT
    have hlen := o4 k
    go_wp2_with fail
    go_loopw [8] (fun u wr => ∃ j : Nat, j ≤ (A.l k).t.length ∧ u = .int .i64 j ∧ Keeps (fun x => ads k = some x) w1 wr ∧ ∀ g N f, ads k = some g → Blk w1 g N 95 f → Blk wr g N 95 (flF f c j)) (fun u _ => (A.l k).t.length - (intOf u).toNat)
    case atStart => exact ⟨0, by omega, rfl, Keeps.refl _ _, fun g N f _ hb => hb.ext fun i _ => by unfold flF; rw [if_neg (by omega)]⟩
    case round =>
      obtain ⟨j, hj, rfl, hkr, hbr⟩ := hrel
      have c1 : wr.cell? ⟨b, 1, none⟩ = some (.slice (some ⟨gl, 0, none⟩) A.n A.n) := hkr.cellOf (unhide HR1).c1 (fun e => ((unhide HR1).ap k hk _ e).1 rfl)
      have cl : wr.cell? ⟨gl, k, none⟩ = some (.slice (slot0 (ads k)) (A.l k).t.length (caps k)) := hkr.cellOf ((unhide HR1).lc k hk) (fun e => ((unhide HR1).ap k hk _ e).2.2.1 rfl)
      have HKR := hide hkr
      have HBR := hide hbr
      clear hkr hbr
      by_cases hlt : j < (A.l k).t.length
      · obtain ⟨g, N, f, hg, hb, hN⟩ : ∃ g N f, ads k = some g ∧ Blk w1 g N 95 f ∧ (A.l k).t.length * 10 ≤ N := by
          rcases (unhide HR1).row k hk with ⟨_, _, h0⟩ | ⟨g, N, f, h1, h2, h3, _⟩
          · have h0' : (A.l k).t = [] := h0
            rw [h0'] at hlt; simp at hlt
          · exact ⟨g, N, f, h1, h2, h3⟩
        have hbj := unhide HBR g N f hg hb
        rw [hg] at cl
        have cl2 : wr.cell? ⟨gl, k, none⟩ = some (.slice (some ⟨g, 0, none⟩) (A.l k).t.length (caps k)) := cl
        have d1 : wr.cell? ⟨g, j * 10 + 2 + c, none⟩ = some (flF f c j (j * 10 + 2 + c)) := hbj.cell _ (by omega)
        have d2 : wr.frozen? ⟨g, j * 10 + 2 + c, none⟩ = false := hbj.free _
        generalize flF f c j (j * 10 + 2 + c) = old at *
        have hlt' : (j : Int) < ((A.l k).t.length : Int) := by omega
        have HG := hide hg
        clear hb hbj cl hg
        generalize (A.l k).t.length = len at *
        go_wp2_with fail
        go_roundw
        case rel =>
          refine ⟨j + 1, by omega, by go_num, Keeps.setCell (F := fun x => ads k = some x) (p := ⟨g, j * 10 + 2 + c, none⟩) (unhide HKR) (unhide HG) _, fun g2 N2 f2 h1 h2 => ?_⟩
          have e : g2 = g := by have := h1.symm.trans (unhide HG); simpa using this
          subst e
          refine ((unhide HBR g2 N2 f2 h1 h2).set _ _).ext fun i _ => ?_
          unfold flF
          by_cases hi : i = j * 10 + 2 + c
          · subst hi; rw [upd_same, if_pos (by omega)]
          · rw [upd_other _ _ _ _ hi]
            by_cases h3 : i % 10 = 2 + c ∧ i / 10 < j
            · rw [if_pos h3, if_pos (by omega)]
            · rw [if_neg h3, if_neg (by omega)]
        case measure => simp [intOf]; omega
      · obtain rfl : j = (A.l k).t.length := by omega
        have END : Hid (∃ F' ads' caps', RRep wr F' b ⟨A.n, upd A.l k ((A.l k).flush c), (A.stepped A.l).on, (A.stepped A.l).fuse, (A.stepped A.l).steps⟩ gs cs gl ads' caps' ∧ Keeps F w1 wr ∧ Grew F w1 F') :=
          rflush_end (unhide HR1) k c hk hc (unhide HKR) (fun g N f h1 h2 => unhide HBR g N f h1 h2)
        clear HBR HKR
        have hge : ¬ (((A.l k).t.length : Int) < ((A.l k).t.length : Int)) := by omega
        go_wp2_with fail
        go_ret
        obtain ⟨F', ads', caps', r1, r2, r3⟩ := unhide END
        rw [unhide HSF]
        exact ⟨rfl, F', ads', caps', r1, (unhide HK1).trans' r2, fun x hx => (r3 x hx).imp id fun h => Nat.le_trans (unhide HK1).size h⟩
  · have hm' : A.may = false := by simpa using hm
    have he := err_off A hm'
    have HSF : Hid (A.flush c k = A.off) := step_off A _ hm'
    have HSL := hide (step_off A A.l hm')
    go_enter Try.func39, Try.ntmps39
    go_wp2_with fail
    refine (ris_any (unhide H) _).mono ?_
    rintro e w1 ⟨rfl, rfl⟩
    rw [D1]
    go_wp2_with fail
    refine (unhide CT).mono ?_
    rintro e w1 ⟨rfl, hr1, hk1⟩
    rw [unhide HSL] at hr1
    have HR1 := hide hr1
    have HK1 := hide hk1
    rw [he]
    clear hr1 hk1 CT
    go_wp2_with fail
    go_ret
    rw [he, unhide HSF]
    exact ⟨rfl, F, ads, caps, unhide HR1, unhide HK1, Grew.refl _ _⟩

theorem rflush_bad (h : RRep w F b A gs cs gl ads caps) (y z : Int) (hz : ¬ (is8 y ∧ A.isZ z)) :
    Calls Try.prog 39 #[.pointer (some ⟨b, 0, none⟩), .int .i64 y, .int .i64 z] w (RWent F w b gs cs gl A (.int .i64 1)) := by
  have H := hide h
  clear h
  by_cases y0 : y < 0
  · go_enter Try.func39, Try.ntmps39
    go_wp2_with fail
    go_ret
    exact ⟨rfl, F, ads, caps, unhide H, Keeps.refl _ _, Grew.refl _ _⟩
  · by_cases y7 : 7 < y
    · go_enter Try.func39, Try.ntmps39
      go_wp2_with fail
      go_ret
      exact ⟨rfl, F, ads, caps, unhide H, Keeps.refl _ _, Grew.refl _ _⟩
    · have h1 : ¬ (0 ≤ z ∧ z < A.n) := fun h => hz ⟨⟨by omega, by omega⟩, h⟩
      have D1 : decide ((0 : Int) ≤ z ∧ z < (A.n : Int)) = false := by simpa using h1
      clear h1 hz
      go_enter Try.func39, Try.ntmps39
      go_wp2_with fail
      refine (ris_any (unhide H) _).mono ?_
      rintro e w1 ⟨rfl, rfl⟩
      rw [D1]
      go_wp2_with fail
      go_ret
      exact ⟨rfl, F, ads, caps, unhide H, Keeps.refl _ _, Grew.refl _ _⟩

theorem rflush_any (h : RRep w F b A gs cs gl ads caps) (hok : A.ok 1000) (y z : Int) :
    Calls Try.prog 39 #[.pointer (some ⟨b, 0, none⟩), .int .i64 y, .int .i64 z] w (RWent F w b gs cs gl (A.flushZ y z) (.int .i64 (A.flushE y z))) := by
  unfold Mm.flushZ Mm.flushE
  by_cases c : is8 y ∧ A.isZ z
  · rw [if_pos c, if_pos c]
    obtain ⟨⟨c1, c2⟩, c3, c4⟩ := c
    have := rflush_good h hok y.toNat z.toNat (by omega) (by omega)
    rw [show ((y.toNat : Nat) : Int) = y by omega, show ((z.toNat : Nat) : Int) = z by omega] at this
    exact this
  · rw [if_neg c, if_neg c]
    exact rflush_bad h y z c

/-! ### Fence -/
theorem RRep.lines {A' : Mm} (h : RRep w F b A gs cs gl ads caps) (hn : A'.n = A.n) (h1 : A'.on = A.on) (h2 : A'.fuse = A.fuse) (h3 : A'.steps = A.steps) (hl : ∀ i, i < A.n → A'.l i = A.l i) : RRep w F b A' gs cs gl ads caps := by
  obtain ⟨N, f, b1, b2, b3, b4⟩ := h.sb
  refine ⟨?_, ⟨N, f, b1, by rw [hn]; exact b2, by rw [hn]; exact b3, fun i hi => ?_⟩, ?_, ?_, h.d1, h.d2, h.d3, ?_, ?_, h.fb, h.fs, h.fl, h.lt⟩
  · have : rhead A' gs cs gl = rhead A gs cs gl := by unfold rhead; rw [hn, h1, h2, h3]
    rw [this]; exact h.hd
  · rw [hn] at hi
    rw [hl (i / 8) (by omega)]; exact b4 i hi
  · rw [hn]
    refine h.lb.ext fun i hi => ?_
    unfold rrowF; rw [hl i hi]
  · intro i hi
    rw [hn] at hi
    rw [hl i hi]; exact h.row i hi
  · intro i hi; rw [hn] at hi; exact h.ap i hi
  · intro i j hi hj; rw [hn] at hi hj; exact h.dj i j hi hj

theorem rfence_good (h : RRep w F b A gs cs gl ads caps) (hok : A.ok 1000) (c : Nat) (hc : c < 8) :
    Calls Try.prog 40 #[.pointer (some ⟨b, 0, none⟩), .int .i64 c] w (RWent F w b gs cs gl (A.fence c) (.int .i64 A.err)) := by
  obtain ⟨o1, o2, o3, o4, o5, o6, o7⟩ := hok
  have hc' : ¬ ((7 : Int) < (c : Int)) := by omega
  have hc8 : (c : Int) < 8 := by omega
  have H := hide h
  have CT := hide (rstep_any h (by omega) o5 o6)
  clear h
  by_cases hm : A.may = true
  · have he := err_on A hm
    have HSF : Hid (A.fence c = ⟨A.n, fun i => (A.l i).settle ((A.l i).f c), (A.stepped A.l).on, (A.stepped A.l).fuse, (A.stepped A.l).steps⟩) := step_on A _ hm
    have HSL := hide (step_on A A.l hm)
    go_enter Try.func40, Try.ntmps40
    go_wp2_with fail
    refine (unhide CT).mono ?_
    rintro e w1 ⟨rfl, hr1, hk1⟩
    rw [unhide HSL] at hr1
    have HR1 := hide hr1
    have HK1 := hide hk1
    rw [he]
    clear hr1 hk1 CT
    go_wp2_with fail
    go_loopw [6] (fun u wr => ∃ k : Nat, k ≤ A.n ∧ u = .int .i64 k ∧ ∃ Fr ar cr, RRep wr Fr b ⟨A.n, fenceTo A c k, (A.stepped A.l).on, (A.stepped A.l).fuse, (A.stepped A.l).steps⟩ gs cs gl ar cr ∧ Keeps F w1 wr ∧ Grew F w1 Fr) (fun u _ => A.n - (intOf u).toNat)
    case atStart =>
      refine ⟨0, by omega, rfl, F, ads, caps, ?_, Keeps.refl _ _, Grew.refl _ _⟩
      have : fenceTo A c 0 = A.l := by funext i; simp [fenceTo]
      rw [this]; exact unhide HR1
    case round =>
      obtain ⟨k, hk, rfl, Fr, ar, cr, hr, hkr, hgr⟩ := hrel
      have c0 : wr.cell? ⟨b, 0, none⟩ = some (.slice (some ⟨gs, 0, none⟩) A.n cs) := hr.c0
      have HR := hide hr
      have HKR := hide hkr
      have HGR := hide hgr
      clear hr hkr hgr
      by_cases hlt : k < A.n
      · have c1 : wr.cell? ⟨b, 1, none⟩ = some (.slice (some ⟨gl, 0, none⟩) A.n A.n) := (unhide HR).c1
        have hlk : fenceTo A c k k = A.l k := by simp [fenceTo]
        have cl : wr.cell? ⟨gl, k, none⟩ = some (.slice (slot0 (ar k)) (A.l k).t.length (cr k)) := by have := (unhide HR).lc k hlt; simp only [hlk] at this; exact this
        have hlt' : (k : Int) < (A.n : Int) := by omega
        have hlen := o4 k
        have hfk := (o3 k).2.2 c
        obtain ⟨len, hle⟩ : ∃ len, len = (A.l k).t.length := ⟨_, rfl⟩
        obtain ⟨fk, hfe⟩ : ∃ fk, fk = (A.l k).f c := ⟨_, rfl⟩
        rw [← hle] at cl hlen hfk
        rw [← hfe] at hfk
        have HLE := hide hle
        have HFE := hide hfe
        have CELLS : Hid (∀ j, j < len → ∃ g, slot0 (ar k) = some ⟨g, 0, none⟩ ∧ wr.cell? ⟨g, j * 10 + 2 + c, none⟩ = some (.bool (decide (j < fk)))) := fun j hj => by
          obtain ⟨g, hg, -, -, hcc⟩ := (unhide HR).st k hlt j (by simp only [hlk]; rw [← hle]; exact hj)
          refine ⟨g, by rw [hg]; rfl, ?_⟩
          have := (hcc c hc).1
          simp only [hlk] at this
          rw [← hfe] at this; exact this
        have CS : Hid (Calls Try.prog 46 #[.pointer (some ⟨b, 0, none⟩), .int .i64 k, .int .i64 fk] wr (RWent Fr wr b gs cs gl ⟨A.n, fenceTo A c (k + 1), (A.stepped A.l).on, (A.stepped A.l).fuse, (A.stepped A.l).steps⟩ (.tuple #[]))) := by
          have := rsure_any (unhide HR) k fk hlt (by simp only [hlk]; rw [← hle]; exact hfk) (by simp only [hlk]; exact o3 k) o2 (by simp only [hlk]; rw [← hle]; omega)
          have e : upd (fenceTo A c k) k ((A.l k).settle fk) = fenceTo A c (k + 1) := by
            funext i
            unfold fenceTo
            by_cases hi : i = k
            · subst hi; rw [upd_same, if_pos (by omega), hfe]
            · rw [upd_other _ _ _ _ hi]
              by_cases h2 : i < k
              · rw [if_pos h2, if_pos (by omega)]
              · rw [if_neg h2, if_neg (by omega)]
          simp only [hlk, e] at this
          exact this
        have HZERO : Hid (fk = 0 → fenceTo A c (k + 1) = fenceTo A c k) := fun h0 => by
          funext i
          unfold fenceTo
          by_cases hi : i = k
          · subst hi; rw [if_pos (by omega), if_neg (by omega), ← hfe, h0, Ln.settle_zero]
          · by_cases h2 : i < k
            · rw [if_pos h2, if_pos (by omega)]
            · rw [if_neg h2, if_neg (by omega)]
        clear hlk hle hfe
        go_wp2_with fail
        go_loopw [7, 8] (fun m u wi => ∃ j : Nat, j ≤ len ∧ u = .int .i64 j ∧ m = .int .i64 ((min j fk : Nat) : Int) ∧ wi = wr) (fun _ u _ => len - (intOf u).toNat)
        case atStart => exact ⟨0, by omega, rfl, by rw [Nat.zero_min]; rfl, rfl⟩
        case round =>
          obtain ⟨j, hj, rfl, rfl, rfl⟩ := hrel
          by_cases hjl : j < len
          · obtain ⟨g, hg, hcell⟩ := unhide CELLS j hjl
            rw [hg] at cl
            have hjl' : (j : Int) < (len : Int) := by omega
            by_cases hjf : j < fk
            · rw [decide_eq_true hjf] at hcell
              go_wp2_with fail
              go_roundw
              case rel => exact ⟨j + 1, by omega, by go_num, by first | go_num | (congr 1; omega), trivial⟩
              case measure => simp [intOf]; omega
            · rw [decide_eq_false hjf] at hcell
              go_wp2_with fail
              go_roundw
              case rel => exact ⟨j + 1, by omega, by go_num, by first | go_num | (congr 1; omega), trivial⟩
              case measure => simp [intOf]; omega
          · have hjl' : ¬ ((j : Int) < (len : Int)) := by omega
            rw [show min j fk = fk by omega]
            clear CELLS
            by_cases hf0 : fk = 0
            · have HZ := hide (unhide HZERO hf0)
              subst hf0
              go_wp2_with fail
              go_roundw
              case rel => exact ⟨k + 1, by omega, by go_num, Fr, ar, cr, by rw [unhide HZ]; exact unhide HR, unhide HKR, unhide HGR⟩
              case measure => simp [intOf]; omega
            · have hf0' : (0 : Int) < (fk : Int) := by omega
              go_wp2_with fail
              refine (unhide CS).mono ?_
              rintro e w5 ⟨rfl, F5, a5, c5, r1, r2, r3⟩
              have R1 := hide r1
              have R2 := hide r2
              have R3 := hide r3
              clear r1 r2 r3
              go_wp2_with fail
              go_roundw
              case rel => exact ⟨k + 1, by omega, by go_num, F5, a5, c5, unhide R1, (unhide HKR).trans (unhide HGR) (unhide R2), (unhide HGR).trans (unhide HKR).size (unhide R3)⟩
              case measure => simp [intOf]; omega
      · have hge : ¬ ((k : Int) < (A.n : Int)) := by omega
        obtain rfl : k = A.n := by omega
        go_wp2_with fail
        go_ret
        rw [unhide HSF]
        exact ⟨rfl, Fr, ar, cr, (unhide HR).lines rfl rfl rfl rfl (fun i hi => by simp [fenceTo, show i < A.n from hi]), (unhide HK1).trans' (unhide HKR), fun x hx => (unhide HGR x hx).imp id fun h => Nat.le_trans (unhide HK1).size h⟩
  · have hm' : A.may = false := by simpa using hm
    have he := err_off A hm'
    have HSF : Hid (A.fence c = A.off) := step_off A _ hm'
    have HSL := hide (step_off A A.l hm')
    go_enter Try.func40, Try.ntmps40
    go_wp2_with fail
    refine (unhide CT).mono ?_
    rintro e w1 ⟨rfl, hr1, hk1⟩
    rw [unhide HSL] at hr1
    have HR1 := hide hr1
    have HK1 := hide hk1
    rw [he]
    clear hr1 hk1 CT
    go_wp2_with fail
    go_ret
    first | rw [he, unhide HSF] | rw [unhide HSF]
    exact ⟨rfl, F, ads, caps, unhide HR1, unhide HK1, Grew.refl _ _⟩

theorem rfence_any (h : RRep w F b A gs cs gl ads caps) (hok : A.ok 1000) (y : Int) :
    Calls Try.prog 40 #[.pointer (some ⟨b, 0, none⟩), .int .i64 y] w (RWent F w b gs cs gl (A.fenceZ y) (.int .i64 (A.fenceE y))) := by
  by_cases c : is8 y
  · unfold Mm.fenceZ Mm.fenceE
    rw [if_pos c, if_pos c]
    obtain ⟨c1, c2⟩ := c
    have := rfence_good h hok y.toNat (by omega)
    rw [show ((y.toNat : Nat) : Int) = y by omega] at this
    exact this
  · have HE : Hid (A.fenceE y = 1) := by show _ = _; unfold Mm.fenceE; rw [if_neg c]
    have HZ : Hid (A.fenceZ y = A) := by show _ = _; unfold Mm.fenceZ; rw [if_neg c]
    have H := hide h
    clear h
    by_cases y0 : y < 0
    · clear c
      go_enter Try.func40, Try.ntmps40
      go_wp2_with fail
      go_ret
      rw [unhide HE, unhide HZ]
      exact ⟨rfl, F, ads, caps, unhide H, Keeps.refl _ _, Grew.refl _ _⟩
    · have y7 : 7 < y := by
        rcases Int.lt_or_le 7 y with h | h
        · exact h
        · exact absurd ⟨by omega, by omega⟩ c
      clear c
      go_enter Try.func40, Try.ntmps40
      go_wp2_with fail
      go_ret
      rw [unhide HE, unhide HZ]
      exact ⟨rfl, F, ads, caps, unhide H, Keeps.refl _ _, Grew.refl _ _⟩
end

end Go.Proofs.Ytmmgacpipcgkdaa
