
/-
  What the document's Crash does.
-/
import Derived.Test.YtmmgacpipcgkdaaNRefFlush
namespace Go.Proofs.Ytmmgacpipcgkdaa
open Go.ChangeShapes Go.WideShapes Go.ChangeAt Go.RowKit Go.Joins
set_option maxRecDepth 10000
set_option linter.unusedVariables false
set_option linter.unusedSimpArgs false

section
variable {w : World} {F : Nat → Prop} {b gs cs gl : Nat} {A : Mm} {ads : Nat → Option Nat} {caps : Nat → Nat}

/-- A line's row of stores is nil. -/
theorem RRep.lost (h : RRep w F b A gs cs gl ads caps) (k : Nat) (hk : k < A.n) : ∃ ads' caps', RRep (w.setCell ⟨gl, k, none⟩ (.slice none 0 0)) F b ⟨A.n, upd A.l k (A.l k).lose, A.on, A.fuse, A.steps⟩ gs cs gl ads' caps' := by
  have hK : Keeps (· = gl) w (w.setCell ⟨gl, k, none⟩ (.slice none 0 0)) := Keeps.setCell (F := (· = gl)) (p := ⟨gl, k, none⟩) (Keeps.refl _ _) rfl _
  obtain ⟨N, f, b1, b2, _, b3⟩ := h.sb
  have h1 := h.line k hk (A.l k).lose none 0 hK (fun x hx => Or.inr (Or.inl hx)) ⟨N, f, b1.keeps hK h.d3, b2, fun i hi => by
    rw [b3 i hi]
    by_cases e : i / 8 = k
    · rw [e, upd_same]; rfl
    · rw [upd_other _ _ _ _ e]⟩ (h.lb.set k _) (Or.inl ⟨rfl, rfl, rfl⟩) (fun g hg => by simp at hg)
  refine ⟨upd ads k none, upd caps k 0, ?_⟩
  exact ⟨h1.hd, h1.sb, h1.lb, h1.row, h1.d1, h1.d2, h1.d3, fun i hi g hg => ⟨(h1.ap i hi g hg).1, (h1.ap i hi g hg).2.1, (h1.ap i hi g hg).2.2.1, (h1.ap i hi g hg).2.2.2.elim id (fun e => by simp at e)⟩, h1.dj, h.fb, h.fs, h.fl, fun x hx => h1.lt x (Or.inl hx)⟩

theorem rcrash_any (h : RRep w F b A gs cs gl ads caps) (hok : A.ok 1000) (a : Option Addr) (keep : List Int) (cap : Nat) (hr : ∀ z ∈ keep, In64 z) (hl : keep.length ≤ 9223372036854775807) (hi : IntsAt w a keep) (hap : ∀ x, a = some x → keep ≠ [] → ¬ F x.block ∧ x.block < w.heap.size) :
    Calls Try.prog 27 #[.pointer (some ⟨b, 0, none⟩), .slice a keep.length cap] w (RWent F w b gs cs gl (A.crash keep) (.tuple #[])) := by
  have H := hide h
  have HI := hide hi
  have HOK := hide hok
  have HAP := hide hap
  have HIR := hide hr
  have hn := hok.2.1
  clear h hi hok hap hr
  go_enter Try.func27, Try.ntmps27
  go_wp2_with fail
  go_loopw [4, 5] (fun u j wr => ∃ k : Nat, k ≤ A.n ∧ j = .int .i64 k ∧ u = .int .i64 (rank A.l k : Nat) ∧ ∃ Fr ar cr, RRep wr Fr b ⟨A.n, crashTo A keep k, A.on, A.fuse, A.steps⟩ gs cs gl ar cr ∧ Keeps F w wr ∧ Grew F w Fr) (fun _ j _ => A.n - (intOf j).toNat)
  case atStart => exact ⟨0, by omega, rfl, rfl, F, ads, caps, by rw [crashTo_zero]; exact unhide H, Keeps.refl _ _, Grew.refl _ _⟩
  case round =>
    obtain ⟨k, hk, rfl, rfl, Fr, ar, cr, hr', hkp, hgr⟩ := hrel
    have c0 : wr.cell? ⟨b, 0, none⟩ = some (.slice (some ⟨gs, 0, none⟩) A.n cs) := hr'.c0
    have HR := hide hr'
    have HKR := hide hkp
    have HGR := hide hgr
    have hrk := rank_le A.l k
    clear hr' hkp hgr
    by_cases hlt : k < A.n
    · have c1 : wr.cell? ⟨b, 1, none⟩ = some (.slice (some ⟨gl, 0, none⟩) A.n A.n) := (unhide HR).c1
      have hlk : crashTo A keep k k = A.l k := by simp [crashTo]
      have cl : wr.cell? ⟨gl, k, none⟩ = some (.slice (slot0 (ar k)) (A.l k).t.length (cr k)) := by have := (unhide HR).lc k hlt; simp only [hlk] at this; exact this
      have hlt' : (k : Int) < (A.n : Int) := by omega
      have hlen := (unhide HOK).2.2.2.1 k
      by_cases h0 : (A.l k).t.length = 0
      · rw [h0] at cl
        have HN : Hid (crashTo A keep k = crashTo A keep (k + 1)) := by
          show _ = _
          rw [← crashTo_next, crashL_sure keep A.l k ((unhide HOK).2.2.1 k) h0]
          funext i
          by_cases hi : i = k
          · subst hi; rw [upd_same]; simp [crashTo]
          · rw [upd_other _ _ _ _ hi]
        have HRK : Hid (rank A.l (k + 1) = rank A.l k) := by show _ = _; simp [rank, h0]
        clear h0 hlk hlen
        go_wp2_with fail
        go_roundw
        case rel => exact ⟨k + 1, by omega, by go_num, by rw [unhide HRK], Fr, ar, cr, by rw [← unhide HN]; exact unhide HR, unhide HKR, unhide HGR⟩
        case measure => simp [intOf]; omega
      · obtain ⟨m, hm⟩ : ∃ m, m = (A.l k).t.length := ⟨_, rfl⟩
        rw [← hm] at cl h0 hlen
        have HM := hide hm
        have hne : ((m : Int) == 0) = false := beq_eq_false_iff_ne.2 (by omega)
        have HRK : Hid (rank A.l (k + 1) = rank A.l k + 1) := by
          show rank A.l k + (if (A.l k).t.length = 0 then 0 else 1) = _
          rw [if_neg (by rw [← hm]; exact h0)]
        obtain ⟨i, hie⟩ : ∃ i, i = rank A.l k := ⟨_, rfl⟩
        obtain ⟨kn, hkn⟩ : ∃ kn, kn = keptN keep i m := ⟨_, rfl⟩
        have hkm : kn ≤ m := by rw [hkn]; exact keptN_le _ _ _
        have HL : Hid (crashL keep A.l k = ((A.l k).settle kn).lose) := by show _ = _; rw [hkn, hie, hm]; rfl
        have HKN := hide hkn
        rw [← hie] at HRK hrk ⊢
        have CS : Hid (∀ y : Int, y = (kn : Int) → Calls Try.prog 46 #[.pointer (some ⟨b, 0, none⟩), .int .i64 k, .int .i64 y] wr (RWent Fr wr b gs cs gl ⟨A.n, upd (crashTo A keep k) k ((A.l k).settle kn), A.on, A.fuse, A.steps⟩ (.tuple #[]))) := fun y hy => by
          have := rsure_any (unhide HR) k kn hlt (by simp only [hlk]; rw [← hm]; exact hkm) (by simp only [hlk]; exact (unhide HOK).2.2.1 k) hn (by simp only [hlk]; rw [← hm]; omega)
          simp only [hlk] at this
          rw [hy]; exact this
        clear hm hlk hkn hie
        by_cases hil : i < keep.length
        · obtain ⟨x, off, rfl, hx⟩ : ∃ b off, a = some ⟨b, off, none⟩ ∧ ∀ i, i < keep.length → w.cell? ⟨b, off + i, none⟩ = some (.int .i64 (keep.getD i 0)) := by
            rcases unhide HI with e | h
            · rw [e] at hil; simp at hil
            · exact h
          have hcx := (unhide HKR).cellOf (hx i hil) ((unhide HAP _ rfl (fun e => by rw [e] at hil; simp at hil)).1)
          have hzr := unhide HIR (keep.getD i 0) (by rw [List.getD_eq_getElem?_getD, List.getElem?_eq_getElem hil]; simp)
          obtain ⟨z, hz⟩ : ∃ z, z = keep.getD i 0 := ⟨_, rfl⟩
          have HKZ : Hid (keptN keep i m = (((if z < 0 then -(z + 1) else z) % ((m : Int) + 1)).toNat)) := by show _ = _; unfold keptN; rw [if_pos hil, hz]
          rw [← hz] at hcx hzr
          obtain ⟨z1, z2⟩ := hzr
          have hil' : (i : Int) < (keep.length : Int) := by omega
          clear hx hz
          by_cases hn : z < 0
          · go_wp2_with fail
            refine (unhide CS _ ?_).mono ?_
            · rw [unhide HKN]
              rw [unhide HKZ, if_pos hn]
              first | exact tmod_neg z hn _ (by omega) | exact emod_toNat _ _ (by omega)
            rintro e w5 ⟨rfl, F5, a5, c5, r1, r2, r3⟩
            have hk5 : k < (Mm.mk A.n (upd (crashTo A keep k) k ((A.l k).settle kn)) A.on A.fuse A.steps).n := hlt
            have R6 : Hid (∃ ads' caps', RRep (w5.setCell ⟨gl, k, none⟩ (.slice none 0 0)) F5 b ⟨A.n, crashTo A keep (k + 1), A.on, A.fuse, A.steps⟩ gs cs gl ads' caps') := by
              obtain ⟨a6, c6, r6⟩ := r1.lost k hk5
              refine ⟨a6, c6, ?_⟩
              have e : upd (upd (crashTo A keep k) k ((A.l k).settle kn)) k ((upd (crashTo A keep k) k ((A.l k).settle kn)) k).lose = crashTo A keep (k + 1) := by
                rw [← crashTo_next, unhide HL, upd_same]
                funext i
                by_cases hi : i = k
                · subst hi; rw [upd_same, upd_same]
                · rw [upd_other _ _ _ _ hi, upd_other _ _ _ _ hi, upd_other _ _ _ _ hi]
              simp only [e] at r6
              exact r6
            have y1 : w5.cell? ⟨b, 1, none⟩ = some (.slice (some ⟨gl, 0, none⟩) A.n A.n) := r1.c1
            have y2 : w5.cell? ⟨gl, k, none⟩ = some (rrowF (Mm.mk A.n (upd (crashTo A keep k) k ((A.l k).settle kn)) A.on A.fuse A.steps) a5 c5 k) := r1.lb.cell k hlt
            have y3 : w5.frozen? ⟨gl, k, none⟩ = false := r1.lb.free _
            generalize rrowF (Mm.mk A.n (upd (crashTo A keep k) k ((A.l k).settle kn)) A.on A.fuse A.steps) a5 c5 k = old at *
            have K6 : Hid (Keeps F w (w5.setCell ⟨gl, k, none⟩ (.slice none 0 0))) := (unhide HKR).trans (unhide HGR) ((r2).trans r3 (Keeps.setCell (F := F5) (p := ⟨gl, k, none⟩) (Keeps.refl _ _) r1.fl _))
            have G6 : Hid (Grew F w F5) := (unhide HGR).trans (unhide HKR).size r3
            clear r1 r2 r3 CS c0 c1 cl
            go_wp2_with fail
            go_roundw
            case rel =>
              obtain ⟨a6, c6, r6⟩ := unhide R6
              exact ⟨k + 1, by omega, by go_num, by rw [unhide HRK]; go_num, F5, a6, c6, r6, unhide K6, unhide G6⟩
            case measure => simp [intOf]; omega
          · go_wp2_with fail
            refine (unhide CS _ ?_).mono ?_
            · rw [unhide HKN]
              rw [unhide HKZ, if_neg (by omega)]
              first | exact emod_toNat z _ (by omega) | exact tmod_pos z (by omega) _ (by omega)
            rintro e w5 ⟨rfl, F5, a5, c5, r1, r2, r3⟩
            have hk5 : k < (Mm.mk A.n (upd (crashTo A keep k) k ((A.l k).settle kn)) A.on A.fuse A.steps).n := hlt
            have R6 : Hid (∃ ads' caps', RRep (w5.setCell ⟨gl, k, none⟩ (.slice none 0 0)) F5 b ⟨A.n, crashTo A keep (k + 1), A.on, A.fuse, A.steps⟩ gs cs gl ads' caps') := by
              obtain ⟨a6, c6, r6⟩ := r1.lost k hk5
              refine ⟨a6, c6, ?_⟩
              have e : upd (upd (crashTo A keep k) k ((A.l k).settle kn)) k ((upd (crashTo A keep k) k ((A.l k).settle kn)) k).lose = crashTo A keep (k + 1) := by
                rw [← crashTo_next, unhide HL, upd_same]
                funext i
                by_cases hi : i = k
                · subst hi; rw [upd_same, upd_same]
                · rw [upd_other _ _ _ _ hi, upd_other _ _ _ _ hi, upd_other _ _ _ _ hi]
              simp only [e] at r6
              exact r6
            have y1 : w5.cell? ⟨b, 1, none⟩ = some (.slice (some ⟨gl, 0, none⟩) A.n A.n) := r1.c1
            have y2 : w5.cell? ⟨gl, k, none⟩ = some (rrowF (Mm.mk A.n (upd (crashTo A keep k) k ((A.l k).settle kn)) A.on A.fuse A.steps) a5 c5 k) := r1.lb.cell k hlt
            have y3 : w5.frozen? ⟨gl, k, none⟩ = false := r1.lb.free _
            generalize rrowF (Mm.mk A.n (upd (crashTo A keep k) k ((A.l k).settle kn)) A.on A.fuse A.steps) a5 c5 k = old at *
            have K6 : Hid (Keeps F w (w5.setCell ⟨gl, k, none⟩ (.slice none 0 0))) := (unhide HKR).trans (unhide HGR) ((r2).trans r3 (Keeps.setCell (F := F5) (p := ⟨gl, k, none⟩) (Keeps.refl _ _) r1.fl _))
            have G6 : Hid (Grew F w F5) := (unhide HGR).trans (unhide HKR).size r3
            clear r1 r2 r3 CS c0 c1 cl
            go_wp2_with fail
            go_roundw
            case rel =>
              obtain ⟨a6, c6, r6⟩ := unhide R6
              exact ⟨k + 1, by omega, by go_num, by rw [unhide HRK]; go_num, F5, a6, c6, r6, unhide K6, unhide G6⟩
            case measure => simp [intOf]; omega
        · have hil' : ¬ ((i : Int) < (keep.length : Int)) := by omega
          go_wp2_with fail
          refine (unhide CS _ ?_).mono ?_
          · rw [unhide HKN]
            unfold keptN
            rw [if_neg hil]; first | rfl | simp
          rintro e w5 ⟨rfl, F5, a5, c5, r1, r2, r3⟩
          have hk5 : k < (Mm.mk A.n (upd (crashTo A keep k) k ((A.l k).settle kn)) A.on A.fuse A.steps).n := hlt
          have R6 : Hid (∃ ads' caps', RRep (w5.setCell ⟨gl, k, none⟩ (.slice none 0 0)) F5 b ⟨A.n, crashTo A keep (k + 1), A.on, A.fuse, A.steps⟩ gs cs gl ads' caps') := by
            obtain ⟨a6, c6, r6⟩ := r1.lost k hk5
            refine ⟨a6, c6, ?_⟩
            have e : upd (upd (crashTo A keep k) k ((A.l k).settle kn)) k ((upd (crashTo A keep k) k ((A.l k).settle kn)) k).lose = crashTo A keep (k + 1) := by
              rw [← crashTo_next, unhide HL, upd_same]
              funext i
              by_cases hi : i = k
              · subst hi; rw [upd_same, upd_same]
              · rw [upd_other _ _ _ _ hi, upd_other _ _ _ _ hi, upd_other _ _ _ _ hi]
            simp only [e] at r6
            exact r6
          have y1 : w5.cell? ⟨b, 1, none⟩ = some (.slice (some ⟨gl, 0, none⟩) A.n A.n) := r1.c1
          have y2 : w5.cell? ⟨gl, k, none⟩ = some (rrowF (Mm.mk A.n (upd (crashTo A keep k) k ((A.l k).settle kn)) A.on A.fuse A.steps) a5 c5 k) := r1.lb.cell k hlt
          have y3 : w5.frozen? ⟨gl, k, none⟩ = false := r1.lb.free _
          generalize rrowF (Mm.mk A.n (upd (crashTo A keep k) k ((A.l k).settle kn)) A.on A.fuse A.steps) a5 c5 k = old at *
          have K6 : Hid (Keeps F w (w5.setCell ⟨gl, k, none⟩ (.slice none 0 0))) := (unhide HKR).trans (unhide HGR) ((r2).trans r3 (Keeps.setCell (F := F5) (p := ⟨gl, k, none⟩) (Keeps.refl _ _) r1.fl _))
          have G6 : Hid (Grew F w F5) := (unhide HGR).trans (unhide HKR).size r3
          clear r1 r2 r3 CS c0 c1 cl
          go_wp2_with fail
          go_roundw
          case rel =>
            obtain ⟨a6, c6, r6⟩ := unhide R6
            exact ⟨k + 1, by omega, by go_num, by rw [unhide HRK]; go_num, F5, a6, c6, r6, unhide K6, unhide G6⟩
          case measure => simp [intOf]; omega
    · have hge : ¬ ((k : Int) < (A.n : Int)) := by omega
      obtain rfl : k = A.n := by omega
      have f1 := (unhide HR).fr 2
      have f2 := (unhide HR).fr 3
      have c1 := (unhide HR).c2
      have c2 := (unhide HR).c3
      simp only at c1 c2
      go_wp2_with fail
      go_end0
      have hr' : RRep wr Fr b ⟨A.n, crashL keep A.l, A.on, A.fuse, A.steps⟩ gs cs gl ar cr := (unhide HR).lines rfl rfl rfl rfl (fun i hi => by simp [crashTo, show i < A.n from hi])
      refine ⟨rfl, Fr, ar, cr, ?_, (unhide HKR).trans (unhide HGR) (Keeps.setCell (F := Fr) (p := ⟨b, 3, none⟩) (Keeps.setCell (F := Fr) (p := ⟨b, 2, none⟩) (Keeps.refl _ _) (unhide HR).fb _) (unhide HR).fb _), unhide HGR⟩
      exact hr'.head (Keeps.setCell (F := (· = b)) (p := ⟨b, 3, none⟩) (Keeps.setCell (F := (· = b)) (p := ⟨b, 2, none⟩) (Keeps.refl _ _) rfl _) rfl _) true (-1) A.steps (rhead_set (rhead_set hr'.hd 2 (.bool false) ⟨A.n, crashL keep A.l, true, A.fuse, A.steps⟩ rfl) 3 (.int .i64 (-1)) _ rfl)
end

end Go.Proofs.Ytmmgacpipcgkdaa
