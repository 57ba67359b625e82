
/-
  The document's frames in the program's memory, standing for the same state; what each of their calls does.
-/
import Derived.Test.YtjmgmbigbkllgaaFArgs
namespace Go.Proofs.Ytjmgmbigbkllgaa
open Go.ChangeShapes Go.WideShapes Go.ChangeAt Go.RowKit Go.Joins
set_option maxRecDepth 10000
set_option linter.unusedVariables false
set_option linter.unusedSimpArgs false

structure RFRep (w : World) (y g : Nat) (A : Fr) : Prop where
  hd : w.heap[y]? = some (.cells #[.int .i64 (A.lo : Int), .slice (some ⟨g, 0, none⟩) (A.hi - A.lo) (A.hi - A.lo)] 116 (0, 0))
  bl : Blk w g (A.hi - A.lo) 3 (fun i => .int .i64 (A.s (A.lo + i)))
  yg : y ≠ g
def RFWent (w : World) (y g : Nat) (A' : Fr) (v : Value) (e : Ending) (w' : World) : Prop := e = .returned v ∧ RFRep w' y g A' ∧ Keeps (· = g) w w'

theorem wrap_nat (k : Nat) (hk : (k : Int) ≤ 9223372036854775807) : IntKind.i64.wrap (k : Int) = (k : Int) := by
  simp [IntKind.wrap, IntKind.signed, IntKind.bits, IntKind.max]
  omega
section
variable {w : World} {y g : Nat} {A : Fr}
theorem RFRep.lt (h : RFRep w y g A) : y < w.heap.size := by
  rcases Nat.lt_or_ge y w.heap.size with h' | h'
  · exact h'
  · have := h.hd; simp [Array.getElem?_eq_none h'] at this
theorem RFRep.c0 (h : RFRep w y g A) : w.cell? ⟨y, 0, none⟩ = some (.int .i64 (A.lo : Int)) := by rw [cell_of_block h.hd]; rfl
theorem RFRep.c1 (h : RFRep w y g A) : w.cell? ⟨y, 1, none⟩ = some (.slice (some ⟨g, 0, none⟩) (A.hi - A.lo) (A.hi - A.lo)) := by rw [cell_of_block h.hd]; rfl
theorem RFRep.keeps {F : Nat → Prop} {w' : World} (h : RFRep w y g A) (hk : Keeps F w w') (h1 : ¬ F y) (h2 : ¬ F g) : RFRep w' y g A :=
  ⟨by rw [hk.block y h.lt h1]; exact h.hd, h.bl.keeps hk h2, h.yg⟩
theorem RFRep.same {w' : World} (h : RFRep w y g A) (h1 : w'.heap[y]? = w.heap[y]?) (h2 : w'.heap[g]? = w.heap[g]?) : RFRep w' y g A :=
  ⟨h1.trans h.hd, by have := h.bl; unfold Blk at this ⊢; rw [h2]; exact this, h.yg⟩
theorem RFRep.drewN (h : RFRep w y g A) (n : Nat) : RFRep (w.drewN n) y g A := ⟨h.hd, h.bl, h.yg⟩
theorem RFRep.put (h : RFRep w y g A) (i : Nat) (v : Int) : RFRep (w.setCell ⟨g, i, none⟩ (.int .i64 v)) y g (A.put (A.lo + i) v) := by
  have hk : Keeps (· = g) w (w.setCell ⟨g, i, none⟩ (.int .i64 v)) := Keeps.setCell (F := (· = g)) (p := ⟨g, i, none⟩) (Keeps.refl _ _) rfl _
  refine ⟨by rw [hk.block y h.lt h.yg]; exact h.hd, ?_, h.yg⟩
  refine (h.bl.set i (.int .i64 v)).ext fun j _ => ?_
  show upd _ i _ j = Value.int .i64 (upd A.s (A.lo + i) v (A.lo + j))
  by_cases hj : j = i
  · subst hj; rw [upd_same, upd_same]
  · rw [upd_other _ _ _ _ hj, upd_other _ _ _ _ (by omega)]

theorem rfstate_any (h : RFRep w y g A) (hok : A.ok) (z : Int) (hz : FIn64 z) :
    Calls Try.prog 63 #[.pointer (some ⟨y, 0, none⟩), .int .i64 z] w fun e w' => e = .returned (.int .i64 (A.st z)) ∧ ∃ m, w' = w.drewN m := by
  have c0 := h.c0
  have c1 := h.c1
  have h1 := hok.1
  have h1024 := hok.2.1
  obtain ⟨z1, z2⟩ := hz
  by_cases h2 : z < (A.lo : Int)
  · have e : A.st z = -1 := if_neg fun q => by have := q.1; omega
    rw [e]
    clear h hok e
    go_enter Try.func63, Try.ntmps63
    go_wp2_with fail
    go_quiet (fail)
    go_wp2_with fail
    go_ret
    exact ⟨rfl, _, rfl⟩
  · obtain ⟨n, hn⟩ : ∃ n, n = A.hi - A.lo := ⟨_, rfl⟩
    rw [← hn] at c1
    have n1024 : n ≤ 1024 := by omega
    obtain ⟨k, hk⟩ : ∃ k : Nat, k = (z - (A.lo : Int)).toNat := ⟨_, rfl⟩
    have hsub : z - (A.lo : Int) = (k : Int) := by omega
    have hwr : IntKind.i64.wrap (k : Int) = (k : Int) := wrap_nat k (by omega)
    by_cases h3 : (A.hi : Int) ≤ z
    · have e : A.st z = -1 := if_neg fun q => by have := q.2; omega
      have hge : (n : Int) ≤ (k : Int) := by omega
      rw [e]
      clear h hok e hn h3 hk
      go_enter Try.func63, Try.ntmps63
      go_wp2_with fail
      go_quiet (fail)
      go_wp2_with fail
      go_ret
      exact ⟨rfl, _, rfl⟩
    · have e : A.st z = A.s z.toNat := if_pos ⟨by omega, by omega⟩
      have hge : (k : Int) < (n : Int) := by omega
      have hg0 : (0 : Int) ≤ (k : Int) := by omega
      have ct : w.cell? ⟨g, k, none⟩ = some (.int .i64 (A.s z.toNat)) := by
        rw [h.bl.cell _ (by omega), show A.lo + k = z.toNat by omega]
      rw [e]
      clear h hok e hn h3 hk
      go_enter Try.func63, Try.ntmps63
      go_wp2_with fail
      go_quiet (fail)
      go_wp2_with fail
      go_quiet (fail)
      go_wp2_with fail
      go_ret
      exact ⟨rfl, _, World.drewN_drewN ..⟩

theorem rfturn_any (h : RFRep w y g A) (hok : A.ok) (z was is : Int) (hz : FIn64 z) (hwas : 0 ≤ was) :
    Calls Try.prog 55 #[.pointer (some ⟨y, 0, none⟩), .int .i64 z, .int .i64 was, .int .i64 is] w (RFWent w y g (A.turnA z was is) (.int .i64 (A.turnE z was))) := by
  have HS := hide (rfstate_any h hok z hz)
  obtain ⟨z1, z2⟩ := hz
  by_cases h1 : A.isF z
  · obtain ⟨l1, l2⟩ := h1
    have h1 : A.isF z := ⟨l1, l2⟩
    have e1 : A.st z = A.s z.toNat := if_pos h1
    obtain ⟨k, hk⟩ : ∃ k : Nat, k = (z - (A.lo : Int)).toNat := ⟨_, rfl⟩
    have hsub : z - (A.lo : Int) = (k : Int) := by omega
    by_cases h2 : A.s z.toNat = was
    · have ea : A.turnA z was is = A.put (A.lo + k) is := by
        unfold Fr.turnA
        rw [e1, if_pos h2, show A.lo + k = z.toNat by omega]
      have ee : A.turnE z was = 0 := by unfold Fr.turnE; rw [if_pos h1, if_pos h2]
      rw [ea, ee]
      rw [e1, h2] at HS
      obtain ⟨n, hn⟩ : ∃ n, n = A.hi - A.lo := ⟨_, rfl⟩
      have HA1 := hide h.c0
      have HA2 := hide h.c1
      rw [← hn] at HA2
      have hge : (k : Int) < (n : Int) := by omega
      have hg0 : (0 : Int) ≤ (k : Int) := by omega
      have n1024 : n ≤ 1024 := by have := hok.2.1; omega
      have hwr : IntKind.i64.wrap (z - (A.lo : Int)) = (k : Int) := by rw [hsub]; exact wrap_nat k (by omega)
      have HR := hide h
      have hlt : k < A.hi - A.lo := by omega
      have HLT := hide hlt
      have hw1 : ¬ (was < 0) := by omega
      clear h hok h1 e1 h2 ea ee hn hlt l2 hk
      go_enter Try.func55, Try.ntmps55
      go_wp2_with fail
      refine (unhide HS).mono ?_
      rintro e w1 ⟨rfl, m, rfl⟩
      have c0 : (w.drewN m).cell? ⟨y, 0, none⟩ = _ := unhide HA1
      have c1 : (w.drewN m).cell? ⟨y, 1, none⟩ = _ := unhide HA2
      have ct : (w.drewN m).cell? ⟨g, k, none⟩ = _ := (unhide HR).bl.cell _ (unhide HLT)
      have cf : (w.drewN m).frozen? ⟨g, k, none⟩ = false := (unhide HR).bl.free _
      have HP := hide (((unhide HR).drewN m).put k is)
      have hkp : Keeps (· = g) w (w.drewN m) := ⟨rfl, rfl, rfl, Nat.le_refl _, fun _ _ _ => rfl⟩
      have HK := hide (Keeps.setCell (F := (· = g)) (p := ⟨g, k, none⟩) hkp rfl (.int .i64 is))
      clear hkp
      generalize w.drewN m = V at *
      generalize A.s (A.lo + k) = old at ct
      clear HS HA1 HA2 HLT
      go_wp2_with fail
      go_region
      go_wp2_with fail
      go_ret
      exact ⟨rfl, ⟨(unhide HP).hd, (unhide HP).bl, (unhide HP).yg⟩, (unhide HK).drew⟩
    · have ea : A.turnA z was is = A := if_neg (fun q => h2 (e1.symm.trans q))
      have ee : A.turnE z was = 3 := by unfold Fr.turnE; rw [if_pos h1, if_neg h2]
      rw [ea, ee]
      rw [e1] at HS
      have hs0 : ¬ (A.s z.toNat < 0) := by have := hok.2.2 z.toNat; omega
      have hs1 : (A.s z.toNat != was) = true := by simpa using h2
      have HR := hide h
      clear h hok h1 e1 h2 ea ee hsub hk
      generalize A.s z.toNat = x at *
      go_enter Try.func55, Try.ntmps55
      go_wp2_with fail
      refine (unhide HS).mono ?_
      rintro e w1 ⟨rfl, m, rfl⟩
      go_wp2_with fail
      go_ret
      exact ⟨rfl, (unhide HR).drewN m, ⟨rfl, rfl, rfl, Nat.le_refl _, fun _ _ _ => rfl⟩⟩
  · have e1 : A.st z = -1 := if_neg h1
    have ea : A.turnA z was is = A := if_neg (fun q => by rw [e1] at q; omega)
    have ee : A.turnE z was = 1 := if_neg h1
    rw [ea, ee]
    rw [e1] at HS
    have HR := hide h
    clear h hok h1 e1 ea ee
    go_enter Try.func55, Try.ntmps55
    go_wp2_with fail
    refine (unhide HS).mono ?_
    rintro e w1 ⟨rfl, m, rfl⟩
    go_wp2_with fail
    go_ret
    exact ⟨rfl, (unhide HR).drewN m, ⟨rfl, rfl, rfl, Nat.le_refl _, fun _ _ _ => rfl⟩⟩

theorem rftake_any (h : RFRep w y g A) (hok : A.ok) (z : Int) (hz : FIn64 z) :
    Calls Try.prog 40 #[.pointer (some ⟨y, 0, none⟩), .int .i64 z] w (RFWent w y g (A.turnA z 0 1) (.int .i64 (A.turnE z 0))) := by
  have HT := hide (rfturn_any h hok z 0 1 hz (by decide))
  clear h hok hz
  go_enter Try.func40, Try.ntmps40
  go_wp2_with fail
  refine (unhide HT).mono ?_
  rintro e w1 ⟨rfl, h1, h2⟩
  have H1 := hide h1
  have H2 := hide h2
  clear h1 h2
  go_wp2
  go_ret
  exact ⟨rfl, unhide H1, unhide H2⟩
theorem leftTo_lo (A : Fr) : A.leftTo A.lo = 0 := by
  unfold Fr.leftTo
  rw [List.countP_eq_zero]
  intro a ha
  rw [fr_false.2 (fun q => by have := List.mem_range.1 ha; omega)]; simp
theorem settleTo_lo (A : Fr) : A.settleTo A.lo = A := by
  cases A with | mk lo hi s =>
  unfold Fr.settleTo
  congr 1
  funext i
  rw [if_neg (by omega)]

theorem rfleft_any (h : RFRep w y g A) (hok : A.ok) :
    Calls Try.prog 41 #[.pointer (some ⟨y, 0, none⟩)] w fun e w' => e = .returned (.int .i64 (A.left : Int)) ∧ w' = w := by
  have c1 := h.c1
  have h1024 := hok.2.1
  have hle := hok.1
  have H := hide h
  clear h hok
  obtain ⟨n, hn⟩ : ∃ n, n = A.hi - A.lo := ⟨_, rfl⟩
  rw [← hn] at c1
  have n1024 : n ≤ 1024 := by omega
  have HN : Hid (A.lo + n = A.hi) := by show _ = _; omega
  clear hn
  go_enter Try.func41, Try.ntmps41
  go_wp2_with fail
  go_loopw [3, 4] (fun m i wr => ∃ k : Nat, k ≤ n ∧ m = .int .i64 (A.leftTo (A.lo + k) : Int) ∧ i = .int .i64 k ∧ wr = w) (fun _ i _ => n - (intOf i).toNat)
  case atStart => exact ⟨0, by omega, by rw [Nat.add_zero, leftTo_lo]; rfl, rfl, rfl⟩
  case round =>
    obtain ⟨k, hk, rfl, rfl, rfl⟩ := hrel
    obtain ⟨m, hm⟩ : ∃ m, m = A.leftTo (A.lo + k) := ⟨_, rfl⟩
    have hmk : m ≤ 2048 := by rw [hm]; have := leftTo_le A (A.lo + k); omega
    rw [← hm]
    have HM := hide hm
    clear hm
    by_cases hlt : k < n
    · have hk' : (k : Int) < (n : Int) := by omega
      have ct := (unhide H).bl.cell k (by have := unhide HN; omega)
      rcases Bool.eq_false_or_eq_true (A.fr (A.lo + k)) with hf | hf
      · rw [(fr_iff.1 hf).2] at ct
        have HX : Hid (A.leftTo (A.lo + (k + 1)) = m + 1) := by show _ = _; rw [← Nat.add_assoc, leftTo_next, if_pos hf, unhide HM]
        clear hf
        go_wp2_with fail
        go_roundw
        case rel => exact ⟨k + 1, by omega, by rw [unhide HX]; go_num, by go_num, by trivial⟩
        case measure => simp [intOf]; omega
      · have e0 : (A.s (A.lo + k) == (0 : Int)) = false := by
          have := fr_false.1 hf
          simp; exact fun q => this ⟨by omega, q⟩
        have HX : Hid (A.leftTo (A.lo + (k + 1)) = m) := by show _ = _; rw [← Nat.add_assoc, leftTo_next, if_neg (by simp [hf]), unhide HM]; rfl
        clear hf
        generalize A.s (A.lo + k) = x at ct e0
        go_wp2_with fail
        go_roundw
        case rel => exact ⟨k + 1, by omega, by rw [unhide HX], by go_num, by trivial⟩
        case measure => simp [intOf]; omega
    · have hk' : ¬ ((k : Int) < (n : Int)) := by omega
      have HX : Hid (A.left = m) := by show A.leftTo A.hi = _; rw [← unhide HN, unhide HM, show k = n by omega]
      go_wp2_with fail
      go_ret
      exact ⟨by rw [unhide HX]; rfl, rfl⟩

end
theorem info_int : (Try.prog.info? 3).map (fun i => (i.zero, i.size, i.bytes)) = some (some (.int .i64 0), 1, 8) := by kernel_rfl
def RFMade (w : World) (A : Fr) (e : Ending) (w' : World) : Prop :=
  ∃ y g, e = .returned (.tuple #[.pointer (some ⟨y, 0, none⟩), .int .i64 0]) ∧ RFRep w' y g A ∧ Keeps (fun _ => False) w w' ∧ w.heap.size ≤ y ∧ w.heap.size ≤ g ∧ g < w'.heap.size
theorem rfnew_any (w : World) (lo hi : Nat) (h1 : lo ≤ hi) (h2 : hi ≤ 1024) : Calls Try.prog 38 #[.int .i64 (lo : Int), .int .i64 (hi : Int)] w (RFMade w (Fr.new lo hi)) := by
  have g1 : ¬ ((lo : Int) < 0) := by omega
  have g2 : ¬ ((hi : Int) < (lo : Int)) := by omega
  have g3 : ¬ ((1024 : Int) < (hi : Int)) := by omega
  obtain ⟨n, hn⟩ : ∃ n, n = hi - lo := ⟨_, rfl⟩
  have hsub : (hi : Int) - (lo : Int) = (n : Int) := by omega
  have n1024 : n ≤ 1024 := by omega
  have HN := hide hn
  clear hn
  obtain ⟨i0, hi0, hz0, hz1, hz2⟩ := info_parts info_int
  go_enter Try.func38, Try.ntmps38
  go_wp2_with (at_make; refine wpList_make_full _ rfl _ _ 72 rfl w.heap.size 3 i0 _ 1 Try.underlying72 hi0 hz0 hz1 .i64 .i64 _ _ n rfl rfl rfl rfl (by rw [hz2]; omega) (by unfold maxLen; omega) (Nat.le_refl _) ?_; intro w2 hown hgrow)
  go_ret2
  have hb := fmade_blk rfl hown
  have hk : Keeps (fun _ => False) w w2 := Keeps.grown (Keeps.refl _ _) hgrow (fun k hk => by simp at hk)
  refine ⟨w2.heap.size, w.heap.size, rfl, ⟨?_, ?_, ?_⟩, hk.alloc _, hk.size, Nat.le_refl _, ?_⟩
  · have e : (Fr.new lo hi).hi - (Fr.new lo hi).lo = n := (unhide HN).symm
    rw [e]
    exact heap_new w2 _
  · have e : (Fr.new lo hi).hi - (Fr.new lo hi).lo = n := (unhide HN).symm
    rw [e]
    exact hb.alloc _
  · have := hb.lt; omega
  · have := hb.lt; simp; omega
theorem rfnew_bad (w : World) (x y : Int) (h : x < 0 ∨ y < x ∨ 1024 < y) : Calls Try.prog 38 #[.int .i64 x, .int .i64 y] w fun e w' => e = .returned (.tuple #[.pointer none, .int .i64 1]) ∧ w' = w := by
  by_cases h1 : x < 0
  · clear h
    go_enter Try.func38, Try.ntmps38
    go_wp2_with fail
    go_ret2
    exact ⟨rfl, rfl⟩
  · by_cases h2 : y < x
    · clear h
      go_enter Try.func38, Try.ntmps38
      go_wp2_with fail
      go_ret2
      exact ⟨rfl, rfl⟩
    · have h3 : 1024 < y := by omega
      clear h
      go_enter Try.func38, Try.ntmps38
      go_wp2_with fail
      go_ret2
      exact ⟨rfl, rfl⟩

/-! ### Both side by side -/
structure FTwo (W w : World) (G : Nat → Prop) (f y g : Nat) (A B : Fr) : Prop where
  has : FHas W w (fun k => G k ∨ k = y ∨ k = g) f A
  rep : RFRep w y g B
  ny : W.heap.size ≤ y
  ng : W.heap.size ≤ g
  gs : ∀ k, G k → k ≠ y ∧ k ≠ g
def FTwoAfter (W w : World) (G : Nat → Prop) (f y g : Nat) (A B : Fr) (v : Value) (e : Ending) (w' : World) : Prop := e = .returned v ∧ FTwo W w' G f y g A B ∧ FSame G w w'
section
variable {W w : World} {G : Nat → Prop} {f y g : Nat} {A B : Fr}
theorem FTwo.fcall (h : FTwo W w G f y g A B) {A' : Fr} {v : Value} {e : Ending} {w' : World} (ha : FAfter W w (fun k => G k ∨ k = y ∨ k = g) f A' v e w') : FTwoAfter W w G f y g A' B v e w' := by
  obtain ⟨he, hh, hs⟩ := ha
  exact ⟨he, ⟨hh, h.rep.same (hs y (Or.inr (Or.inl rfl))) (hs g (Or.inr (Or.inr rfl))), h.ny, h.ng, h.gs⟩, fun k hk => hs k (Or.inl hk)⟩
theorem FTwo.ycall (h : FTwo W w G f y g A B) {B' : Fr} {v : Value} {e : Ending} {w' : World} (ha : RFWent w y g B' v e w') : FTwoAfter W w G f y g A B' v e w' := by
  obtain ⟨he, hr, hk⟩ := ha
  refine ⟨he, ⟨h.has.beside hk (fun k e => by subst e; exact ⟨h.ng, (h.has.gs k (Or.inr (Or.inr rfl))).1⟩), hr, h.ny, h.ng, h.gs⟩, fun k hk' => hk.block k (h.has.gs k (Or.inl hk')).2 (h.gs k hk').2⟩
theorem FTwo.drewN (h : FTwo W w G f y g A B) (n : Nat) : FTwo W (w.drewN n) G f y g A B :=
  ⟨⟨h.has.rep, h.has.ok, ⟨h.has.keeps.os, h.has.keeps.tape, h.has.keeps.output, h.has.keeps.size, h.has.keeps.block⟩, h.has.new, h.has.gs⟩, h.rep.drewN n, h.ny, h.ng, h.gs⟩
theorem FTwo.less {G' : Nat → Prop} (h : FTwo W w G f y g A B) (hG : ∀ k, G' k → G k) : FTwo W w G' f y g A B :=
  ⟨h.has.less fun k hk => hk.imp (hG k) id, h.rep, h.ny, h.ng, fun k hk => h.gs k (hG k hk)⟩
theorem FTwo.alloc (h : FTwo W w G f y g A B) (o : Obj) : FTwo W (w.alloc o) (fun k => G k ∨ k = w.heap.size) f y g A B := by
  have hy := (h.has.gs y (Or.inr (Or.inl rfl))).2
  have hg := (h.has.gs g (Or.inr (Or.inr rfl))).2
  refine ⟨(h.has.alloc o).less fun k hk => ?_, h.rep.keeps (F := fun _ => False) ((Keeps.refl _ _).alloc o) id id, h.ny, h.ng, fun k hk => ?_⟩
  · rcases hk with (hk | hk) | hk
    · exact Or.inl (Or.inl hk)
    · exact Or.inr hk
    · exact Or.inl (Or.inr hk)
  · rcases hk with hk | rfl
    · exact h.gs k hk
    · exact ⟨by omega, by omega⟩
theorem FTwo.made {w' : World} (hh : FHas W w G f A) (hr : RFRep w' y g B) (hk : Keeps (fun _ => False) w w') (h1 : w.heap.size ≤ y) (h2 : w.heap.size ≤ g) (h3 : g < w'.heap.size) : FTwo W w' G f y g A B := by
  have hs := hh.keeps.size
  have hf := hh.rep.lt
  refine ⟨⟨hh.rep.keeps hk id, hh.ok, hh.keeps.trans' hk, hh.new, fun k hk' => ?_⟩, hr, by omega, by omega, fun k hk' => ?_⟩
  · rcases hk' with hk' | rfl | rfl
    · exact ⟨(hh.gs k hk').1, Nat.lt_of_lt_of_le (hh.gs k hk').2 hk.size⟩
    · exact ⟨by omega, hr.lt⟩
    · exact ⟨by omega, h3⟩
  · have := (hh.gs k hk').2; exact ⟨by omega, by omega⟩
end

end Go.Proofs.Ytjmgmbigbkllgaa
