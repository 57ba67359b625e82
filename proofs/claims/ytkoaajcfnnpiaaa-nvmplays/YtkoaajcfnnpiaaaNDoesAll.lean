/-
  The law's does for any call; what is read of both memories side by side.
-/
import Derived.Test.YtkoaajcfnnpiaaaNDoes
import Derived.Test.YtkoaajcfnnpiaaaNSame
namespace Go.Proofs.Ytkoaajcfnnpiaaa
open Go.ChangeShapes Go.WideShapes Go.ChangeAt Go.RowKit Go.Joins
set_option maxRecDepth 10000
set_option linter.unusedVariables false
set_option linter.unusedSimpArgs false

/-- What a call makes of a memory. -/
def Mm.does (A : Mm) (p : OpV) : Mm :=
  if kindN p.kind 12 < 5 then A.storeZ p.line p.word p.v
  else if kindN p.kind 12 = 5 then A.flushZ p.core p.line
  else if kindN p.kind 12 = 6 then A.fenceZ p.core
  else if kindN p.kind 12 = 7 then A.evictZ p.line p.word
  else if kindN p.kind 12 = 8 then A.fused p.word
  else if kindN p.kind 12 = 9 then A.crash p.keep
  else A
/-- A call that may be. -/
def OpOk (W : World) (p : OpV) : Prop := In64 p.kind ∧ In64 p.core ∧ In64 p.line ∧ In64 p.word ∧ InU p.v ∧ IntsAt W p.ka p.keep ∧ (∀ z ∈ p.keep, In64 z) ∧ p.keep.length ≤ 9223372036854775807
theorem ok_does {W : World} {A : Mm} {B : Nat} (h : A.ok B) (p : OpV) (hp : OpOk W p) : (A.does p).ok (B + 1) := by
  obtain ⟨_, _, _, p4, p5, _⟩ := hp
  unfold Mm.does
  split
  · exact ok_storeZ h _ _ _ p5
  · split
    · exact ok_flushZ h _ _
    · split
      · exact ok_fenceZ h _
      · split
        · exact ok_mono (ok_evictZ h _ _) (by omega)
        · split
          · exact ok_mono (ok_fused h _ p4) (by omega)
          · split
            · exact ok_mono (ok_crash h _) (by omega)
            · exact ok_mono h (by omega)
theorem does_n (A : Mm) (p : OpV) : (A.does p).n = A.n := by
  unfold Mm.does
  split
  · exact storeZ_n _ _ _ _
  · split
    · exact flushZ_n _ _ _
    · split
      · exact fenceZ_n _ _
      · split
        · exact evictZ_n _ _ _
        · split
          · rfl
          · split <;> rfl

section
variable {W w : World} {G : Nat → Prop} {b y : Nat} {A A' : Mm}
theorem does_any (h : Two W w G b y A A) (hok : A.ok 999) (p : OpV) (hp : OpOk W p) :
    Calls Try.prog 18 #[.pointer (some ⟨b, 0, none⟩), .pointer (some ⟨y, 0, none⟩), .agg (opV p)] w (Did W w G b y (A.does p)) := by
  obtain ⟨k1, k2, k3, k4, k5, k6, k7, k8⟩ := hp
  have hlt := kindN_lt p.kind 12 (by decide)
  unfold Mm.does
  rcases (show kindN p.kind 12 = 0 ∨ kindN p.kind 12 = 1 ∨ kindN p.kind 12 = 2 ∨ kindN p.kind 12 = 3 ∨ kindN p.kind 12 = 4 ∨ kindN p.kind 12 = 5 ∨ kindN p.kind 12 = 6 ∨ kindN p.kind 12 = 7 ∨ kindN p.kind 12 = 8 ∨ kindN p.kind 12 = 9 ∨ kindN p.kind 12 = 10 ∨ kindN p.kind 12 = 11 by omega) with e | e | e | e | e | e | e | e | e | e | e | e
  · rw [if_pos (by omega)]; exact does_store0 h hok p e k1
  · rw [if_pos (by omega)]; exact does_store1 h hok p e k1
  · rw [if_pos (by omega)]; exact does_store2 h hok p e k1
  · rw [if_pos (by omega)]; exact does_store3 h hok p e k1
  · rw [if_pos (by omega)]; exact does_store4 h hok p e k1
  · rw [if_neg (by omega), if_pos e]; exact does_flush h hok p e k1
  · rw [if_neg (by omega), if_neg (by omega), if_pos e]; exact does_fence h hok p e k1
  · rw [if_neg (by omega), if_neg (by omega), if_neg (by omega), if_pos e]; exact does_evict h hok p e k1
  · rw [if_neg (by omega), if_neg (by omega), if_neg (by omega), if_neg (by omega), if_pos e]; exact does_fuse h hok p e k1 k4
  · rw [if_neg (by omega), if_neg (by omega), if_neg (by omega), if_neg (by omega), if_neg (by omega), if_pos e]; exact does_crash h hok p e k1 k6 k7 k8
  · rw [if_neg (by omega), if_neg (by omega), if_neg (by omega), if_neg (by omega), if_neg (by omega), if_neg (by omega)]; exact does_load10 h hok p e k1
  · rw [if_neg (by omega), if_neg (by omega), if_neg (by omega), if_neg (by omega), if_neg (by omega), if_neg (by omega)]; exact does_load11 h hok p e k1

theorem Two.drewN (h : Two W w G b y A A') (n : Nat) : Two W (w.drewN n) G b y A A' := by
  induction n with
  | zero => exact h
  | succ n ih => exact ih.drew
/-- The document's head, and its sure lines. -/
theorem Two.head (h : Two W w G b y A A') : ∃ gs cs, w.cell? ⟨y, 0, none⟩ = some (.slice (some ⟨gs, 0, none⟩) A'.n cs) ∧ w.cell? ⟨y, 2, none⟩ = some (.bool (!A'.on)) ∧ w.cell? ⟨y, 4, none⟩ = some (.int .i64 (A'.steps : Int)) ∧ LinesAt w (some ⟨gs, 0, none⟩) A'.n (fun i => (A'.l i).s) := by
  obtain ⟨F', gs, cz, gl, ads, caps, hr, hh, hF, hG⟩ := h
  refine ⟨gs, cz, by rw [cell_of_block hr.hd]; rfl, by rw [cell_of_block hr.hd]; rfl, by rw [cell_of_block hr.hd]; rfl, ?_⟩
  obtain ⟨N, f, h1, h2, _, h3⟩ := hr.sb
  refine Or.inr ⟨gs, 0, rfl, fun i hi => ?_⟩
  rw [Nat.zero_add]
  refine h1.range (i * 8) 8 (by omega) _ fun j hj => ?_
  rw [h3 _ (by omega), show (i * 8 + j) / 8 = i by omega, show (i * 8 + j) % 8 = j by omega]
theorem Two.same (h : Two W w G b y A A') {w' : World} (hk : Keeps (fun _ => False) w w') : Two W w' G b y A A' ∧ Same G w w' := by
  obtain ⟨F', gs, cz, gl, ads, caps, hr, ⟨F, c, cs, h1, h2, h3, h4⟩, hF, hG⟩ := h
  exact ⟨⟨F', gs, cz, gl, ads, caps, hr.keeps hk fun _ _ => id, ⟨F, c, cs, h1.keeps hk fun _ _ => id, h2.trans' hk, h3, fun k hk' => ⟨(h4 k hk').1, Nat.lt_of_lt_of_le (h4 k hk').2 hk.size⟩⟩, hF, hG⟩, fun k hk' => hk.block k (h4 k (Or.inl hk')).2 id⟩
/-- Sure beside the document's memory. -/
theorem Two.sure (h : Two W w G b y A A') (hn : A.n ≤ 1024) : Calls Try.prog 22 #[.pointer (some ⟨b, 0, none⟩)] w fun e w' =>
    ∃ g, e = .returned (.slice (some ⟨g, 0, none⟩) A.n A.n) ∧ RowL w' g A.n (fun i => (A.l i).s) ∧ Two W w' (fun k => G k ∨ k = g) b y A A' ∧ Keeps (fun _ => False) w w' ∧ W.heap.size ≤ g := by
  obtain ⟨F', gs, cz, gl, ads, caps, hr, ⟨F, c, cs, h1, h2, h3, h4⟩, hF, hG⟩ := h
  refine (sure_any h1 hn).mono ?_
  rintro e w' ⟨g, rfl, hg, hb, hrr, hk⟩
  refine ⟨g, rfl, hb, ⟨F', gs, cz, gl, ads, caps, hr.keeps hk fun _ _ => id, ⟨F, c, cs, hrr, h2.trans' hk, h3, fun k hk' => ?_⟩, hF, fun k hk' hf => ?_⟩, hk, Nat.le_trans h2.size hg⟩
  · rcases hk' with (hk' | rfl) | hk'
    · exact ⟨(h4 k (Or.inl hk')).1, Nat.lt_of_lt_of_le (h4 k (Or.inl hk')).2 hk.size⟩
    · exact ⟨fun hf => by have := h1.lt _ hf; omega, hb.lt⟩
    · exact ⟨(h4 k (Or.inr hk')).1, Nat.lt_of_lt_of_le (h4 k (Or.inr hk')).2 hk.size⟩
  · rcases hk' with hk' | rfl
    · exact hG k hk' hf
    · have := hr.lt _ hf; omega
theorem Two.isOn (h : Two W w G b y A A') : Calls Try.prog 19 #[.pointer (some ⟨b, 0, none⟩)] w fun e w' => e = .returned (.bool A.on) ∧ w' = w := h.has.isOn
theorem Two.steps (h : Two W w G b y A A') : Calls Try.prog 20 #[.pointer (some ⟨b, 0, none⟩)] w fun e w' => e = .returned (.int .i64 (A.steps : Int)) ∧ w' = w := h.has.steps
theorem Two.lines (h : Two W w G b y A A') : Calls Try.prog 21 #[.pointer (some ⟨b, 0, none⟩)] w fun e w' => e = .returned (.int .i64 (A.n : Int)) ∧ w' = w := by
  obtain ⟨F, c, cs, h1, h2, h3, h4⟩ := h.has
  exact lines_any h1
/-- What the old one does behind a clone leaves the two as they were. -/
theorem nine : Try.prog.built 50 [(0, .int .u64 9), (1, .int .u64 9)] = some (lnV fun j => if j < 2 then 9 else 0) := by kernel_rfl
end

end Go.Proofs.Ytkoaajcfnnpiaaa
