import Derived.Test.YtinhnnnehhlceaaGreatFMake
import Derived.Deep.Slices
import Derived.OwnWalk

/-
  Frames that a call has made, beside blocks of the call's own: what each of their calls leaves; the statements' kind; the document's examples.
-/
namespace Go.Proofs.YtinhnnnehhlceaaGreat
open Go.ChangeShapes Go.WideShapes Go.ChangeAt Go.RowKit Go.Joins
set_option maxRecDepth 10000
set_option linter.unusedVariables false
set_option linter.unusedSimpArgs false

def FSame (G : Nat → Prop) (w w' : World) : Prop := ∀ k, G k → w'.heap[k]? = w.heap[k]?
structure FHas (W w : World) (G : Nat → Prop) (b : Nat) (A : Fr) : Prop where
  rep : FRep w b A
  ok : A.ok
  keeps : Keeps (fun _ => False) W w
  new : W.heap.size ≤ b
  gs : ∀ k, G k → k ≠ b ∧ k < w.heap.size
def FAfter (W w : World) (G : Nat → Prop) (b : Nat) (A' : Fr) (v : Value) (e : Ending) (w' : World) : Prop := e = .returned v ∧ FHas W w' G b A' ∧ FSame G w w'

section
variable {W w : World} {G : Nat → Prop} {b : Nat} {A : Fr}
theorem fwent_has (h : FHas W w G b A) {A' : Fr} (hok : A'.ok) {v : Value} {e : Ending} {w' : World} (hw : FWent w b A' v e w') : FAfter W w G b A' v e w' := by
  obtain ⟨he, h1, h2⟩ := hw
  refine ⟨he, ⟨h1, hok, ⟨h2.os.trans h.keeps.os, h2.tape.trans h.keeps.tape, h2.output.trans h.keeps.output, Nat.le_trans h.keeps.size h2.size, fun k hk _ => ?_⟩, h.new, fun k hk => ⟨(h.gs k hk).1, Nat.lt_of_lt_of_le (h.gs k hk).2 h2.size⟩⟩, fun k hk => h2.block k (h.gs k hk).2 (h.gs k hk).1⟩
  rw [h2.block k (Nat.lt_of_lt_of_le hk h.keeps.size) (fun e => by have := h.new; omega)]; exact h.keeps.block k hk id
theorem FHas.alloc (h : FHas W w G b A) (o : Obj) : FHas W (w.alloc o) (fun k => G k ∨ k = w.heap.size) b A :=
  ⟨h.rep.keeps (F := fun _ => False) ((Keeps.refl _ _).alloc o) id, h.ok, h.keeps.alloc o, h.new, fun k hk => by
    rcases hk with hk | rfl
    · exact ⟨(h.gs k hk).1, by have := (h.gs k hk).2; simp; omega⟩
    · exact ⟨by have := h.rep.lt; omega, by simp⟩⟩
theorem FHas.drew (h : FHas W w G b A) : FHas W w.drew G b A := ⟨h.rep, h.ok, h.keeps.drew, h.new, h.gs⟩
theorem FHas.less {G' : Nat → Prop} (h : FHas W w G b A) (hG : ∀ k, G' k → G k) : FHas W w G' b A := ⟨h.rep, h.ok, h.keeps, h.new, fun k hk => h.gs k (hG k hk)⟩
theorem FHas.own {w' : World} (h : FHas W w G b A) {L : Nat} (hL : G L) (hW : W.heap.size ≤ L) (hk : Keeps (· = L) w w') : FHas W w' G b A :=
  ⟨h.rep.keeps hk (fun e => (h.gs L hL).1 e.symm), h.ok, ⟨hk.os.trans h.keeps.os, hk.tape.trans h.keeps.tape, hk.output.trans h.keeps.output, Nat.le_trans h.keeps.size hk.size, fun k hk' _ => by
    rw [hk.block k (Nat.lt_of_lt_of_le hk' h.keeps.size) (by omega)]; exact h.keeps.block k hk' id⟩, h.new, fun k hk' => ⟨(h.gs k hk').1, Nat.lt_of_lt_of_le (h.gs k hk').2 hk.size⟩⟩
/-- Another call, that makes or turns blocks beside all of these. -/
theorem FHas.beside {w' : World} {F : Nat → Prop} (h : FHas W w G b A) (hk : Keeps F w w') (hF : ∀ k, F k → W.heap.size ≤ k ∧ k ≠ b) : FHas W w' G b A :=
  ⟨h.rep.keeps hk (fun e => (hF b e).2 rfl), h.ok, ⟨hk.os.trans h.keeps.os, hk.tape.trans h.keeps.tape, hk.output.trans h.keeps.output, Nat.le_trans h.keeps.size hk.size, fun k hk' _ => by
    rw [hk.block k (Nat.lt_of_lt_of_le hk' h.keeps.size) (fun e => by have := (hF k e).1; omega)]; exact h.keeps.block k hk' id⟩, h.new, fun k hk' => ⟨(h.gs k hk').1, Nat.lt_of_lt_of_le (h.gs k hk').2 hk.size⟩⟩

theorem FHas.state (h : FHas W w G b A) (z : Int) : Calls Tryz.prog 127 #[.pointer (some ⟨b, 0, none⟩), .int .i64 z] w fun e w' => e = .returned (.int .i64 (A.st z)) ∧ w' = w := state_any h.rep h.ok z
theorem FHas.left (h : FHas W w G b A) : Calls Tryz.prog 75 #[.pointer (some ⟨b, 0, none⟩)] w fun e w' => e = .returned (.int .i64 (A.left : Int)) ∧ w' = w := left_any h.rep h.ok
theorem FHas.take (h : FHas W w G b A) (z : Int) : Calls Tryz.prog 148 #[.pointer (some ⟨b, 0, none⟩), .int .i64 z] w (FAfter W w G b (A.turnA z 0 1) (.int .i64 (A.turnE z 0))) :=
  (take_any h.rep h.ok z).mono fun e w' hw => fwent_has h (turn_ok h.ok _ _ (Or.inr (Or.inl rfl))) hw
theorem FHas.free (h : FHas W w G b A) (z : Int) : Calls Tryz.prog 81 #[.pointer (some ⟨b, 0, none⟩), .int .i64 z] w (FAfter W w G b (A.turnA z 1 0) (.int .i64 (A.turnE z 1))) :=
  (free_any h.rep h.ok z).mono fun e w' hw => fwent_has h (turn_ok h.ok _ _ (Or.inl rfl)) hw
theorem FHas.allocate (h : FHas W w G b A) : Calls Tryz.prog 106 #[.pointer (some ⟨b, 0, none⟩)] w (FAfter W w G b A.allocA (.tuple #[.int .i64 A.allocV, .int .i64 A.allocE])) :=
  (alloc_any h.rep h.ok).mono fun e w' hw => fwent_has h (alloc_ok h.ok) hw
end
theorem fmade_has {w : World} {A : Fr} {e : Ending} {w' : World} (W : World) (hW : Keeps (fun _ => False) W w) (hok : A.ok) (h : FMade w A e w') (G : Nat → Prop) (hG : ∀ k, G k → k < w.heap.size) :
    ∃ b, e = .returned (.tuple #[.pointer (some ⟨b, 0, none⟩), .int .i64 0]) ∧ FHas W w' G b A ∧ FSame G w w' := by
  obtain ⟨b, h1, h2, h3, h4⟩ := h
  exact ⟨b, h1, ⟨h2, hok, hW.trans' h3, Nat.le_trans hW.size h4, fun k hk => ⟨by have := hG k hk; omega, Nat.lt_of_lt_of_le (hG k hk) h3.size⟩⟩, fun k hk => h3.block k (hG k hk) id⟩

/-! ### The statements' kind -/
def FIn64 (z : Int) : Prop := -9223372036854775808 ≤ z ∧ z ≤ 9223372036854775807
theorem fin64_wf {z : Int} (h : (Lit.int .i64 z).wf = true) : FIn64 z := by
  simp [Lit.wf, IntKind.min, IntKind.max, IntKind.signed, IntKind.bits] at h; exact ⟨by omega, by omega⟩
def fkN (z : Int) (n : Nat) : Nat := ((if z < 0 then -(z + 1) else z) % (n : Int)).toNat
theorem fkN_lt (z : Int) (n : Nat) (hn : 0 < n) : fkN z n < n := by
  unfold fkN
  have h1 := Int.emod_nonneg (if z < 0 then -(z + 1) else z) (show (n : Int) ≠ 0 by omega)
  have h2 := Int.emod_lt_of_pos (if z < 0 then -(z + 1) else z) (show (0 : Int) < (n : Int) by omega)
  omega
theorem ftmod_neg (z : Int) (hz : z < 0) (n : Int) (hn : 0 < n) : -((z + 1).tmod n) = (((-(z + 1)) % n).toNat : Int) := by
  rw [← Int.neg_tmod, Int.tmod_eq_emod_of_nonneg (by omega)]
  have := Int.emod_nonneg (-(z + 1)) (show n ≠ 0 by omega)
  omega
theorem ftmod_pos (z : Int) (hz : 0 ≤ z) (n : Int) (hn : 0 < n) : z.tmod n = ((z % n).toNat : Int) := by
  rw [Int.tmod_eq_emod_of_nonneg hz]
  have := Int.emod_nonneg z (show n ≠ 0 by omega)
  omega
theorem femod_toNat (z : Int) (n : Int) (hn : 0 < n) : z % n = ((z % n).toNat : Int) := by
  have := Int.emod_nonneg z (show n ≠ 0 by omega)
  omega

/-! ### The document's examples -/
def fs0 : Fr := Fr.new 2 5
def fs1 : Fr := fs0.allocA
def fs2 : Fr := fs1.allocA
def fs3 : Fr := fs2.turnA 2 1 2
def fs4 : Fr := fs3.allocA
def fs5 : Fr := fs4.allocA
theorem fa0 : fs0.allocV = 2 := by decide +kernel
theorem fa1 : fs1.allocV = 3 := by decide +kernel
theorem fa2 : fs2.turnE 2 1 = 0 := by decide +kernel
theorem fa3 : fs3.allocV = 4 := by decide +kernel
theorem fa4 : fs4.allocE = 10 := by decide +kernel
end Go.Proofs.YtinhnnnehhlceaaGreat


/-
  What the statements' arguments are: rows of calls (steadfastlaw04.Op: two numbers each); a row of bools that a call makes.
-/
namespace Go.Proofs.YtinhnnnehhlceaaGreat
open Go.ChangeShapes Go.WideShapes Go.ChangeAt Go.RowKit Go.Joins Go.Deep
set_option maxRecDepth 10000
set_option linter.unusedVariables false

theorem FKeeps.cellOf {F : Nat → Prop} {w w' : World} (h : Keeps F w w') {b o : Nat} {v : Value} (hc : w.cell? ⟨b, o, none⟩ = some v) (hF : ¬ F b) : w'.cell? ⟨b, o, none⟩ = some v := by
  have hb : b < w.heap.size := World.block_lt_of_cell? w _ hc
  rw [World.cell?_of_block (w := w) (h.block b hb hF)]; exact hc

structure FOp where
  kind : Int
  line : Int
instance : Inhabited FOp := ⟨⟨0, 0⟩⟩
def FOp.cells (p : FOp) : List Value := [.int .i64 p.kind, .int .i64 p.line]
def FOpAt (W : World) (b o : Nat) (p : FOp) : Prop := W.cell? ⟨b, o, none⟩ = some (.int .i64 p.kind) ∧ W.cell? ⟨b, o + 1, none⟩ = some (.int .i64 p.line) ∧ FIn64 p.kind ∧ FIn64 p.line
def FOpsAt (W : World) (a : Option Addr) (n cap : Nat) (o : Nat → FOp) : Prop := n ≤ 9223372036854775807 ∧ (n = 0 ∨ ∃ b off, a = some ⟨b, off, none⟩ ∧ ∀ i, i < n → FOpAt W b (off + i * 2) (o i))


theorem fmade_blk {w : World} {base g n : Nat} {e : TypeId} {z : Value} (h1 : z.cells = #[z]) (h : w.ownsRow base e 1 (.slice (some ⟨g, 0, none⟩) n n) n (madeCells z.cells (n * 1)).toList) :
    Blk w g n e (fun _ => z) := by
  rcases h.2 with ⟨h', _⟩ | ⟨g', cap, cur, h', _, hg, _, _, hcs, htake⟩
  · simp at h'
  · simp only [Value.slice.injEq, Option.some.injEq, Addr.mk.injEq, and_true, true_and] at h'
    obtain ⟨rfl, rfl⟩ := h'
    rw [Nat.mul_one] at htake hcs
    have hcur : cur = tab n (fun _ => z) := by
      rw [List.take_of_length_le (by simp [hcs])] at htake
      have h2 : cur = madeCells z.cells n := by rw [← Array.toArray_toList (xs := cur), htake, Array.toArray_toList]
      rw [h2]
      apply Array.ext_getElem?
      intro i
      by_cases hi : i < n
      · rw [tab_get _ _ _ hi]
        simp only [madeCells, Array.getElem?_map, Array.getElem?_range, hi]
        simp [h1, Nat.mod_one]
      · rw [tab_none _ _ _ (by omega), Array.getElem?_eq_none (by rw [size_madeCells]; omega)]
    refine Blk.of_tab ?_
    rw [← hcur]; exact hg

end Go.Proofs.YtinhnnnehhlceaaGreat


/-
  The document's frames in the program's memory, standing for the same state; what each of their calls does.
-/
namespace Go.Proofs.YtinhnnnehhlceaaGreat
open Go.ChangeShapes Go.WideShapes Go.ChangeAt Go.RowKit Go.Joins
set_option maxRecDepth 10000
set_option linter.unusedVariables false
set_option linter.unusedSimpArgs false

structure RFRep (w : World) (y g : Nat) (A : Fr) : Prop where
  hd : w.heap[y]? = some (.cells #[.int .i64 (A.lo : Int), .slice (some ⟨g, 0, none⟩) (A.hi - A.lo) (A.hi - A.lo)] 164 (0, 0))
  bl : Blk w g (A.hi - A.lo) 3 (fun i => .int .i64 (A.s (A.lo + i)))
  yg : y ≠ g
def RFWent (w : World) (y g : Nat) (A' : Fr) (v : Value) (e : Ending) (w' : World) : Prop := e = .returned v ∧ RFRep w' y g A' ∧ Keeps (· = g) w w'

theorem wrap_nat (k : Nat) (hk : (k : Int) ≤ 9223372036854775807) : IntKind.i64.wrap (k : Int) = (k : Int) := by
  simp [IntKind.wrap, IntKind.signed, IntKind.bits, IntKind.max]
  omega
section
variable {w : World} {y g : Nat} {A : Fr}
theorem RFRep.lt (h : RFRep w y g A) : y < w.heap.size := by
  rcases Nat.lt_or_ge y w.heap.size with h' | h'
  · exact h'
  · have := h.hd; simp [Array.getElem?_eq_none h'] at this
theorem RFRep.c0 (h : RFRep w y g A) : w.cell? ⟨y, 0, none⟩ = some (.int .i64 (A.lo : Int)) := by rw [cell_of_block h.hd]; rfl
theorem RFRep.c1 (h : RFRep w y g A) : w.cell? ⟨y, 1, none⟩ = some (.slice (some ⟨g, 0, none⟩) (A.hi - A.lo) (A.hi - A.lo)) := by rw [cell_of_block h.hd]; rfl
theorem RFRep.keeps {F : Nat → Prop} {w' : World} (h : RFRep w y g A) (hk : Keeps F w w') (h1 : ¬ F y) (h2 : ¬ F g) : RFRep w' y g A :=
  ⟨by rw [hk.block y h.lt h1]; exact h.hd, h.bl.keeps hk h2, h.yg⟩
theorem RFRep.same {w' : World} (h : RFRep w y g A) (h1 : w'.heap[y]? = w.heap[y]?) (h2 : w'.heap[g]? = w.heap[g]?) : RFRep w' y g A :=
  ⟨h1.trans h.hd, by have := h.bl; unfold Blk at this ⊢; rw [h2]; exact this, h.yg⟩
theorem RFRep.drewN (h : RFRep w y g A) (n : Nat) : RFRep (w.drewN n) y g A := ⟨h.hd, h.bl, h.yg⟩
theorem RFRep.put (h : RFRep w y g A) (i : Nat) (v : Int) : RFRep (w.setCell ⟨g, i, none⟩ (.int .i64 v)) y g (A.put (A.lo + i) v) := by
  have hk : Keeps (· = g) w (w.setCell ⟨g, i, none⟩ (.int .i64 v)) := Keeps.setCell (F := (· = g)) (p := ⟨g, i, none⟩) (Keeps.refl _ _) rfl _
  refine ⟨by rw [hk.block y h.lt h.yg]; exact h.hd, ?_, h.yg⟩
  refine (h.bl.set i (.int .i64 v)).ext fun j _ => ?_
  show upd _ i _ j = Value.int .i64 (upd A.s (A.lo + i) v (A.lo + j))
  by_cases hj : j = i
  · subst hj; rw [upd_same, upd_same]
  · rw [upd_other _ _ _ _ hj, upd_other _ _ _ _ (by omega)]

theorem rfstate_any (h : RFRep w y g A) (hok : A.ok) (z : Int) (hz : FIn64 z) :
    Calls Tryz.prog 156 #[.pointer (some ⟨y, 0, none⟩), .int .i64 z] w fun e w' => e = .returned (.int .i64 (A.st z)) ∧ ∃ m, w' = w.drewN m := by
  have c0 := h.c0
  have c1 := h.c1
  have h1 := hok.1
  have h1024 := hok.2.1
  obtain ⟨z1, z2⟩ := hz
  by_cases h2 : z < (A.lo : Int)
  · have e : A.st z = -1 := if_neg fun q => by have := q.1; omega
    rw [e]
    clear h hok e
    go_enter Tryz.func156, Tryz.ntmps156
    go_wp2_with fail
    go_quiet (fail)
    go_wp2_with fail
    go_ret
    exact ⟨rfl, _, rfl⟩
  · obtain ⟨n, hn⟩ : ∃ n, n = A.hi - A.lo := ⟨_, rfl⟩
    rw [← hn] at c1
    have n1024 : n ≤ 1024 := by omega
    obtain ⟨k, hk⟩ : ∃ k : Nat, k = (z - (A.lo : Int)).toNat := ⟨_, rfl⟩
    have hsub : z - (A.lo : Int) = (k : Int) := by omega
    have hwr : IntKind.i64.wrap (k : Int) = (k : Int) := wrap_nat k (by omega)
    by_cases h3 : (A.hi : Int) ≤ z
    · have e : A.st z = -1 := if_neg fun q => by have := q.2; omega
      have hge : (n : Int) ≤ (k : Int) := by omega
      rw [e]
      clear h hok e hn h3 hk
      go_enter Tryz.func156, Tryz.ntmps156
      go_wp2_with fail
      go_quiet (fail)
      go_wp2_with fail
      go_ret
      exact ⟨rfl, _, rfl⟩
    · have e : A.st z = A.s z.toNat := if_pos ⟨by omega, by omega⟩
      have hge : (k : Int) < (n : Int) := by omega
      have hg0 : (0 : Int) ≤ (k : Int) := by omega
      have ct : w.cell? ⟨g, k, none⟩ = some (.int .i64 (A.s z.toNat)) := by
        rw [h.bl.cell _ (by omega), show A.lo + k = z.toNat by omega]
      rw [e]
      clear h hok e hn h3 hk
      go_enter Tryz.func156, Tryz.ntmps156
      go_wp2_with fail
      go_quiet (fail)
      go_wp2_with fail
      go_quiet (fail)
      go_wp2_with fail
      go_ret
      exact ⟨rfl, _, World.drewN_drewN ..⟩

theorem rfturn_any (h : RFRep w y g A) (hok : A.ok) (z was is : Int) (hz : FIn64 z) (hwas : 0 ≤ was) :
    Calls Tryz.prog 122 #[.pointer (some ⟨y, 0, none⟩), .int .i64 z, .int .i64 was, .int .i64 is] w (RFWent w y g (A.turnA z was is) (.int .i64 (A.turnE z was))) := by
  have HS := hide (rfstate_any h hok z hz)
  obtain ⟨z1, z2⟩ := hz
  by_cases h1 : A.isF z
  · obtain ⟨l1, l2⟩ := h1
    have h1 : A.isF z := ⟨l1, l2⟩
    have e1 : A.st z = A.s z.toNat := if_pos h1
    obtain ⟨k, hk⟩ : ∃ k : Nat, k = (z - (A.lo : Int)).toNat := ⟨_, rfl⟩
    have hsub : z - (A.lo : Int) = (k : Int) := by omega
    by_cases h2 : A.s z.toNat = was
    · have ea : A.turnA z was is = A.put (A.lo + k) is := by
        unfold Fr.turnA
        rw [e1, if_pos h2, show A.lo + k = z.toNat by omega]
      have ee : A.turnE z was = 0 := by unfold Fr.turnE; rw [if_pos h1, if_pos h2]
      rw [ea, ee]
      rw [e1, h2] at HS
      obtain ⟨n, hn⟩ : ∃ n, n = A.hi - A.lo := ⟨_, rfl⟩
      have HA1 := hide h.c0
      have HA2 := hide h.c1
      rw [← hn] at HA2
      have hge : (k : Int) < (n : Int) := by omega
      have hg0 : (0 : Int) ≤ (k : Int) := by omega
      have n1024 : n ≤ 1024 := by have := hok.2.1; omega
      have hwr : IntKind.i64.wrap (z - (A.lo : Int)) = (k : Int) := by rw [hsub]; exact wrap_nat k (by omega)
      have HR := hide h
      have hlt : k < A.hi - A.lo := by omega
      have HLT := hide hlt
      have hw1 : ¬ (was < 0) := by omega
      clear h hok h1 e1 h2 ea ee hn hlt l2 hk
      go_enter Tryz.func122, Tryz.ntmps122
      go_wp2_with fail
      refine (unhide HS).mono ?_
      rintro e w1 ⟨rfl, m, rfl⟩
      have c0 : (w.drewN m).cell? ⟨y, 0, none⟩ = _ := unhide HA1
      have c1 : (w.drewN m).cell? ⟨y, 1, none⟩ = _ := unhide HA2
      have ct : (w.drewN m).cell? ⟨g, k, none⟩ = _ := (unhide HR).bl.cell _ (unhide HLT)
      have cf : (w.drewN m).frozen? ⟨g, k, none⟩ = false := (unhide HR).bl.free _
      have HP := hide (((unhide HR).drewN m).put k is)
      have hkp : Keeps (· = g) w (w.drewN m) := ⟨rfl, rfl, rfl, Nat.le_refl _, fun _ _ _ => rfl⟩
      have HK := hide (Keeps.setCell (F := (· = g)) (p := ⟨g, k, none⟩) hkp rfl (.int .i64 is))
      clear hkp
      generalize w.drewN m = V at *
      generalize A.s (A.lo + k) = old at ct
      clear HS HA1 HA2 HLT
      go_wp2_with fail
      go_region
      go_wp2_with fail
      go_ret
      exact ⟨rfl, ⟨(unhide HP).hd, (unhide HP).bl, (unhide HP).yg⟩, (unhide HK).drew⟩
    · have ea : A.turnA z was is = A := if_neg (fun q => h2 (e1.symm.trans q))
      have ee : A.turnE z was = 3 := by unfold Fr.turnE; rw [if_pos h1, if_neg h2]
      rw [ea, ee]
      rw [e1] at HS
      have hs0 : ¬ (A.s z.toNat < 0) := by have := hok.2.2 z.toNat; omega
      have hs1 : (A.s z.toNat != was) = true := by simpa using h2
      have HR := hide h
      clear h hok h1 e1 h2 ea ee hsub hk
      generalize A.s z.toNat = x at *
      go_enter Tryz.func122, Tryz.ntmps122
      go_wp2_with fail
      refine (unhide HS).mono ?_
      rintro e w1 ⟨rfl, m, rfl⟩
      go_wp2_with fail
      go_ret
      exact ⟨rfl, (unhide HR).drewN m, ⟨rfl, rfl, rfl, Nat.le_refl _, fun _ _ _ => rfl⟩⟩
  · have e1 : A.st z = -1 := if_neg h1
    have ea : A.turnA z was is = A := if_neg (fun q => by rw [e1] at q; omega)
    have ee : A.turnE z was = 1 := if_neg h1
    rw [ea, ee]
    rw [e1] at HS
    have HR := hide h
    clear h hok h1 e1 ea ee
    go_enter Tryz.func122, Tryz.ntmps122
    go_wp2_with fail
    refine (unhide HS).mono ?_
    rintro e w1 ⟨rfl, m, rfl⟩
    go_wp2_with fail
    go_ret
    exact ⟨rfl, (unhide HR).drewN m, ⟨rfl, rfl, rfl, Nat.le_refl _, fun _ _ _ => rfl⟩⟩

theorem rftake_any (h : RFRep w y g A) (hok : A.ok) (z : Int) (hz : FIn64 z) :
    Calls Tryz.prog 71 #[.pointer (some ⟨y, 0, none⟩), .int .i64 z] w (RFWent w y g (A.turnA z 0 1) (.int .i64 (A.turnE z 0))) := by
  have HT := hide (rfturn_any h hok z 0 1 hz (by decide))
  clear h hok hz
  go_enter Tryz.func71, Tryz.ntmps71
  go_wp2_with fail
  refine (unhide HT).mono ?_
  rintro e w1 ⟨rfl, h1, h2⟩
  have H1 := hide h1
  have H2 := hide h2
  clear h1 h2
  go_wp2
  go_ret
  exact ⟨rfl, unhide H1, unhide H2⟩
theorem rffree_any (h : RFRep w y g A) (hok : A.ok) (z : Int) (hz : FIn64 z) :
    Calls Tryz.prog 83 #[.pointer (some ⟨y, 0, none⟩), .int .i64 z] w (RFWent w y g (A.turnA z 1 0) (.int .i64 (A.turnE z 1))) := by
  have HT := hide (rfturn_any h hok z 1 0 hz (by decide))
  clear h hok hz
  go_enter Tryz.func83, Tryz.ntmps83
  go_wp2_with fail
  refine (unhide HT).mono ?_
  rintro e w1 ⟨rfl, h1, h2⟩
  have H1 := hide h1
  have H2 := hide h2
  clear h1 h2
  go_wp2
  go_ret
  exact ⟨rfl, unhide H1, unhide H2⟩
theorem leftTo_lo (A : Fr) : A.leftTo A.lo = 0 := by
  unfold Fr.leftTo
  rw [List.countP_eq_zero]
  intro a ha
  rw [fr_false.2 (fun q => by have := List.mem_range.1 ha; omega)]; simp
theorem settleTo_lo (A : Fr) : A.settleTo A.lo = A := by
  cases A with | mk lo hi s =>
  unfold Fr.settleTo
  congr 1
  funext i
  rw [if_neg (by omega)]

theorem rfleft_any (h : RFRep w y g A) (hok : A.ok) :
    Calls Tryz.prog 36 #[.pointer (some ⟨y, 0, none⟩)] w fun e w' => e = .returned (.int .i64 (A.left : Int)) ∧ w' = w := by
  have c1 := h.c1
  have h1024 := hok.2.1
  have hle := hok.1
  have H := hide h
  clear h hok
  obtain ⟨n, hn⟩ : ∃ n, n = A.hi - A.lo := ⟨_, rfl⟩
  rw [← hn] at c1
  have n1024 : n ≤ 1024 := by omega
  have HN : Hid (A.lo + n = A.hi) := by show _ = _; omega
  clear hn
  go_enter Tryz.func36, Tryz.ntmps36
  go_wp2_with fail
  go_loopw [3, 4] (fun m i wr => ∃ k : Nat, k ≤ n ∧ m = .int .i64 (A.leftTo (A.lo + k) : Int) ∧ i = .int .i64 k ∧ wr = w) (fun _ i _ => n - (intOf i).toNat)
  case atStart => exact ⟨0, by omega, by rw [Nat.add_zero, leftTo_lo]; rfl, rfl, rfl⟩
  case round =>
    obtain ⟨k, hk, rfl, rfl, rfl⟩ := hrel
    obtain ⟨m, hm⟩ : ∃ m, m = A.leftTo (A.lo + k) := ⟨_, rfl⟩
    have hmk : m ≤ 2048 := by rw [hm]; have := leftTo_le A (A.lo + k); omega
    rw [← hm]
    have HM := hide hm
    clear hm
    by_cases hlt : k < n
    · have hk' : (k : Int) < (n : Int) := by omega
      have ct := (unhide H).bl.cell k (by have := unhide HN; omega)
      rcases Bool.eq_false_or_eq_true (A.fr (A.lo + k)) with hf | hf
      · rw [(fr_iff.1 hf).2] at ct
        have HX : Hid (A.leftTo (A.lo + (k + 1)) = m + 1) := by show _ = _; rw [← Nat.add_assoc, leftTo_next, if_pos hf, unhide HM]
        clear hf
        go_wp2_with fail
        go_roundw
        case rel => exact ⟨k + 1, by omega, by rw [unhide HX]; go_num, by go_num, by trivial⟩
        case measure => simp [intOf]; omega
      · have e0 : (A.s (A.lo + k) == (0 : Int)) = false := by
          have := fr_false.1 hf
          simp; exact fun q => this ⟨by omega, q⟩
        have HX : Hid (A.leftTo (A.lo + (k + 1)) = m) := by show _ = _; rw [← Nat.add_assoc, leftTo_next, if_neg (by simp [hf]), unhide HM]; rfl
        clear hf
        generalize A.s (A.lo + k) = x at ct e0
        go_wp2_with fail
        go_roundw
        case rel => exact ⟨k + 1, by omega, by rw [unhide HX], by go_num, by trivial⟩
        case measure => simp [intOf]; omega
    · have hk' : ¬ ((k : Int) < (n : Int)) := by omega
      have HX : Hid (A.left = m) := by show A.leftTo A.hi = _; rw [← unhide HN, unhide HM, show k = n by omega]
      go_wp2_with fail
      go_ret
      exact ⟨by rw [unhide HX]; rfl, rfl⟩

theorem rfalloc_any (h : RFRep w y g A) (hok : A.ok) :
    Calls Tryz.prog 55 #[.pointer (some ⟨y, 0, none⟩)] w (RFWent w y g A.allocA (.tuple #[.int .i64 A.allocV, .int .i64 A.allocE])) := by
  have c1 := h.c1
  have c0 := h.c0
  have h1024 := hok.2.1
  have hle := hok.1
  have H := hide h
  clear h hok
  obtain ⟨n, hn⟩ : ∃ n, n = A.hi - A.lo := ⟨_, rfl⟩
  rw [← hn] at c1
  have n1024 : n ≤ 1024 := by omega
  have HN : Hid (A.lo + n = A.hi) := by show _ = _; omega
  clear hn
  go_enter Tryz.func55, Tryz.ntmps55
  go_wp2_with fail
  go_loopw [4] (fun i wr => ∃ k : Nat, k ≤ n ∧ i = .int .i64 k ∧ wr = w ∧ ∀ j, j < A.lo + k → A.fr j = false) (fun i _ => n - (intOf i).toNat)
  case atStart => exact ⟨0, by omega, rfl, rfl, fun j hj => fr_false.2 fun q => by omega⟩
  case round =>
    obtain ⟨k, hk, rfl, rfl, hno⟩ := hrel
    have HNO := hide hno
    clear hno
    by_cases hlt : k < n
    · have hk' : (k : Int) < (n : Int) := by omega
      have ct := (unhide H).bl.cell k (by have := unhide HN; omega)
      rcases Bool.eq_false_or_eq_true (A.fr (A.lo + k)) with hf | hf
      · rw [(fr_iff.1 hf).2] at ct
        have ef : A.first = some (A.lo + k) := first_some (by have := unhide HN; omega) hf (unhide HNO)
        have cf := (unhide H).bl.free k
        have HP := hide ((unhide H).put k 1)
        have ea : A.allocA = A.put (A.lo + k) 1 := by unfold Fr.allocA; rw [ef]
        have ev : A.allocV = ((A.lo + k : Nat) : Int) := by unfold Fr.allocV; rw [ef]
        have ee : A.allocE = 0 := by unfold Fr.allocE; rw [ef]
        have HE := hide (And.intro ea (And.intro ev ee))
        have hy : y ≠ g := (unhide H).yg
        have c0' : (wr.setCell ⟨g, k, none⟩ (.int .i64 1)).cell? ⟨y, 0, none⟩ = some (.int .i64 (A.lo : Int)) := (unhide HP).c0
        clear ef ea ev ee hf
        go_wp2_with fail
        go_ret2
        obtain ⟨ea, ev, ee⟩ := unhide HE
        rw [ea, ev, ee]
        refine ⟨?_, unhide HP, Keeps.setCell (F := (· = g)) (p := ⟨g, k, none⟩) (Keeps.refl _ _) rfl _⟩
        first | rfl | (simp; done) | trace_state
      · have e0 : (A.s (A.lo + k) == (0 : Int)) = false := by
          have := fr_false.1 hf
          simp; exact fun q => this ⟨by omega, q⟩
        have HF := hide hf
        clear hf
        generalize A.s (A.lo + k) = x at ct e0
        go_wp2_with fail
        go_roundw
        case rel => exact ⟨k + 1, by omega, by go_num, by trivial, fun j hj => by
          by_cases hjk : j = A.lo + k
          · rw [hjk]; exact unhide HF
          · exact unhide HNO j (by omega)⟩
        case measure => simp [intOf]; omega
    · have hk' : ¬ ((k : Int) < (n : Int)) := by omega
      have ef : A.first = none := first_none fun i hi => unhide HNO i (by have := unhide HN; omega)
      have ea : A.allocA = A := by unfold Fr.allocA; rw [ef]
      have ev : A.allocV = 0 := by unfold Fr.allocV; rw [ef]
      have ee : A.allocE = 10 := by unfold Fr.allocE; rw [ef]
      have HE := hide (And.intro ea (And.intro ev ee))
      clear ef ea ev ee
      go_wp2_with fail
      go_ret2
      obtain ⟨ea, ev, ee⟩ := unhide HE
      rw [ea, ev, ee]
      exact ⟨rfl, unhide H, Keeps.refl _ _⟩

end
theorem info_int : (Tryz.prog.info? 3).map (fun i => (i.zero, i.size, i.bytes)) = some (some (.int .i64 0), 1, 8) := by kernel_rfl
def RFMade (w : World) (A : Fr) (e : Ending) (w' : World) : Prop :=
  ∃ y g, e = .returned (.tuple #[.pointer (some ⟨y, 0, none⟩), .int .i64 0]) ∧ RFRep w' y g A ∧ Keeps (fun _ => False) w w' ∧ w.heap.size ≤ y ∧ w.heap.size ≤ g ∧ g < w'.heap.size
theorem rfnew_any (w : World) (lo hi : Nat) (h1 : lo ≤ hi) (h2 : hi ≤ 1024) : Calls Tryz.prog 69 #[.int .i64 (lo : Int), .int .i64 (hi : Int)] w (RFMade w (Fr.new lo hi)) := by
  have g1 : ¬ ((lo : Int) < 0) := by omega
  have g2 : ¬ ((hi : Int) < (lo : Int)) := by omega
  have g3 : ¬ ((1024 : Int) < (hi : Int)) := by omega
  obtain ⟨n, hn⟩ : ∃ n, n = hi - lo := ⟨_, rfl⟩
  have hsub : (hi : Int) - (lo : Int) = (n : Int) := by omega
  have n1024 : n ≤ 1024 := by omega
  have HN := hide hn
  clear hn
  obtain ⟨i0, hi0, hz0, hz1, hz2⟩ := info_parts info_int
  go_enter Tryz.func69, Tryz.ntmps69
  go_wp2_with (at_make; refine wpList_make_full _ rfl _ _ 100 rfl w.heap.size 3 i0 _ 1 Tryz.underlying100 hi0 hz0 hz1 .i64 .i64 _ _ n rfl rfl rfl rfl (by rw [hz2]; omega) (by unfold maxLen; omega) (Nat.le_refl _) ?_; intro w2 hown hgrow)
  go_ret2
  have hb := fmade_blk rfl hown
  have hk : Keeps (fun _ => False) w w2 := Keeps.grown (Keeps.refl _ _) hgrow (fun k hk => by simp at hk)
  refine ⟨w2.heap.size, w.heap.size, rfl, ⟨?_, ?_, ?_⟩, hk.alloc _, hk.size, Nat.le_refl _, ?_⟩
  · have e : (Fr.new lo hi).hi - (Fr.new lo hi).lo = n := (unhide HN).symm
    rw [e]
    exact heap_new w2 _
  · have e : (Fr.new lo hi).hi - (Fr.new lo hi).lo = n := (unhide HN).symm
    rw [e]
    exact hb.alloc _
  · have := hb.lt; omega
  · have := hb.lt; simp; omega
theorem rfnew_bad (w : World) (x y : Int) (h : x < 0 ∨ y < x ∨ 1024 < y) : Calls Tryz.prog 69 #[.int .i64 x, .int .i64 y] w fun e w' => e = .returned (.tuple #[.pointer none, .int .i64 1]) ∧ w' = w := by
  by_cases h1 : x < 0
  · clear h
    go_enter Tryz.func69, Tryz.ntmps69
    go_wp2_with fail
    go_ret2
    exact ⟨rfl, rfl⟩
  · by_cases h2 : y < x
    · clear h
      go_enter Tryz.func69, Tryz.ntmps69
      go_wp2_with fail
      go_ret2
      exact ⟨rfl, rfl⟩
    · have h3 : 1024 < y := by omega
      clear h
      go_enter Tryz.func69, Tryz.ntmps69
      go_wp2_with fail
      go_ret2
      exact ⟨rfl, rfl⟩

/-! ### Both side by side -/
structure FTwo (W w : World) (G : Nat → Prop) (f y g : Nat) (A B : Fr) : Prop where
  has : FHas W w (fun k => G k ∨ k = y ∨ k = g) f A
  rep : RFRep w y g B
  ny : W.heap.size ≤ y
  ng : W.heap.size ≤ g
  gs : ∀ k, G k → k ≠ y ∧ k ≠ g
def FTwoAfter (W w : World) (G : Nat → Prop) (f y g : Nat) (A B : Fr) (v : Value) (e : Ending) (w' : World) : Prop := e = .returned v ∧ FTwo W w' G f y g A B ∧ FSame G w w'
section
variable {W w : World} {G : Nat → Prop} {f y g : Nat} {A B : Fr}
theorem FTwo.fcall (h : FTwo W w G f y g A B) {A' : Fr} {v : Value} {e : Ending} {w' : World} (ha : FAfter W w (fun k => G k ∨ k = y ∨ k = g) f A' v e w') : FTwoAfter W w G f y g A' B v e w' := by
  obtain ⟨he, hh, hs⟩ := ha
  exact ⟨he, ⟨hh, h.rep.same (hs y (Or.inr (Or.inl rfl))) (hs g (Or.inr (Or.inr rfl))), h.ny, h.ng, h.gs⟩, fun k hk => hs k (Or.inl hk)⟩
theorem FTwo.ycall (h : FTwo W w G f y g A B) {B' : Fr} {v : Value} {e : Ending} {w' : World} (ha : RFWent w y g B' v e w') : FTwoAfter W w G f y g A B' v e w' := by
  obtain ⟨he, hr, hk⟩ := ha
  refine ⟨he, ⟨h.has.beside hk (fun k e => by subst e; exact ⟨h.ng, (h.has.gs k (Or.inr (Or.inr rfl))).1⟩), hr, h.ny, h.ng, h.gs⟩, fun k hk' => hk.block k (h.has.gs k (Or.inl hk')).2 (h.gs k hk').2⟩
theorem FTwo.drewN (h : FTwo W w G f y g A B) (n : Nat) : FTwo W (w.drewN n) G f y g A B :=
  ⟨⟨h.has.rep, h.has.ok, ⟨h.has.keeps.os, h.has.keeps.tape, h.has.keeps.output, h.has.keeps.size, h.has.keeps.block⟩, h.has.new, h.has.gs⟩, h.rep.drewN n, h.ny, h.ng, h.gs⟩
theorem FTwo.less {G' : Nat → Prop} (h : FTwo W w G f y g A B) (hG : ∀ k, G' k → G k) : FTwo W w G' f y g A B :=
  ⟨h.has.less fun k hk => hk.imp (hG k) id, h.rep, h.ny, h.ng, fun k hk => h.gs k (hG k hk)⟩
theorem FTwo.alloc (h : FTwo W w G f y g A B) (o : Obj) : FTwo W (w.alloc o) (fun k => G k ∨ k = w.heap.size) f y g A B := by
  have hy := (h.has.gs y (Or.inr (Or.inl rfl))).2
  have hg := (h.has.gs g (Or.inr (Or.inr rfl))).2
  refine ⟨(h.has.alloc o).less fun k hk => ?_, h.rep.keeps (F := fun _ => False) ((Keeps.refl _ _).alloc o) id id, h.ny, h.ng, fun k hk => ?_⟩
  · rcases hk with (hk | hk) | hk
    · exact Or.inl (Or.inl hk)
    · exact Or.inr hk
    · exact Or.inl (Or.inr hk)
  · rcases hk with hk | rfl
    · exact h.gs k hk
    · exact ⟨by omega, by omega⟩
theorem FTwo.made {w' : World} (hh : FHas W w G f A) (hr : RFRep w' y g B) (hk : Keeps (fun _ => False) w w') (h1 : w.heap.size ≤ y) (h2 : w.heap.size ≤ g) (h3 : g < w'.heap.size) : FTwo W w' G f y g A B := by
  have hs := hh.keeps.size
  have hf := hh.rep.lt
  refine ⟨⟨hh.rep.keeps hk id, hh.ok, hh.keeps.trans' hk, hh.new, fun k hk' => ?_⟩, hr, by omega, by omega, fun k hk' => ?_⟩
  · rcases hk' with hk' | rfl | rfl
    · exact ⟨(hh.gs k hk').1, Nat.lt_of_lt_of_le (hh.gs k hk').2 hk.size⟩
    · exact ⟨by omega, hr.lt⟩
    · exact ⟨by omega, h3⟩
  · have := (hh.gs k hk').2; exact ⟨by omega, by omega⟩
/-- A clone takes its place; what the old one does then leaves the two as they were. -/
theorem FTwo.clone (h : FTwo W w G f y g A B) : Calls Tryz.prog 94 #[.pointer (some ⟨f, 0, none⟩)] w fun e w' =>
    ∃ b, e = .returned (.pointer (some ⟨b, 0, none⟩)) ∧ FHas W w' (fun k => G k ∨ k = y ∨ k = g ∨ k = b) f A ∧ FSame G w w' ∧
      ∀ w2 D, FHas W w2 (fun k => G k ∨ k = y ∨ k = g ∨ k = b) f D → FSame (fun k => G k ∨ k = y ∨ k = g ∨ k = b) w' w2 → FTwo W w2 G b y g A B := by
  refine (fclone_any h.has.rep).mono ?_
  rintro e w' ⟨b, rfl, hb, hf, hk, hn⟩
  have hfl := h.has.rep.lt
  have hy := (h.has.gs y (Or.inr (Or.inl rfl))).2
  have hg := (h.has.gs g (Or.inr (Or.inr rfl))).2
  have hs := h.has.keeps.size
  refine ⟨b, rfl, ⟨hf, h.has.ok, h.has.keeps.trans' hk, h.has.new, fun k hk' => ?_⟩, fun k hk' => hk.block k (h.has.gs k (Or.inl hk')).2 id, fun w2 D hd hs2 => ?_⟩
  · rcases hk' with hk' | rfl | rfl | rfl
    · exact ⟨(h.has.gs k (Or.inl hk')).1, Nat.lt_of_lt_of_le (h.has.gs k (Or.inl hk')).2 hk.size⟩
    · exact ⟨(h.has.gs k (Or.inr (Or.inl rfl))).1, Nat.lt_of_lt_of_le hy hk.size⟩
    · exact ⟨(h.has.gs k (Or.inr (Or.inr rfl))).1, Nat.lt_of_lt_of_le hg hk.size⟩
    · exact ⟨by omega, hb.lt⟩
  · have hr := h.rep.keeps hk id id
    refine ⟨⟨(hs2 b (Or.inr (Or.inr (Or.inr rfl)))).trans hb, h.has.ok, hd.keeps, by omega, fun k hk' => ?_⟩, hr.same (hs2 y (Or.inr (Or.inl rfl))) (hs2 g (Or.inr (Or.inr (Or.inl rfl)))), h.ny, h.ng, h.gs⟩
    rcases hk' with hk' | rfl | rfl
    · exact ⟨by have := (h.has.gs k (Or.inl hk')).2; omega, (hd.gs k (Or.inl hk')).2⟩
    · exact ⟨by omega, (hd.gs k (Or.inr (Or.inl rfl))).2⟩
    · exact ⟨by omega, (hd.gs k (Or.inr (Or.inr (Or.inl rfl)))).2⟩
end

end Go.Proofs.YtinhnnnehhlceaaGreat
