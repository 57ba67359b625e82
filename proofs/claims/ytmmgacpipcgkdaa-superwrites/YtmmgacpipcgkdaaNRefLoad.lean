
/-
  What the document's Load, Evict and Crash do.
-/
import Derived.Test.YtmmgacpipcgkdaaNRefSure
namespace Go.Proofs.Ytmmgacpipcgkdaa
open Go.ChangeShapes Go.WideShapes Go.ChangeAt Go.RowKit Go.Joins
set_option maxRecDepth 10000
set_option linter.unusedVariables false
set_option linter.unusedSimpArgs false

section
variable {w : World} {F : Nat → Prop} {b gs cs gl : Nat} {A : Mm} {ads : Nat → Option Nat} {caps : Nat → Nat}

def RLoaded (w : World) (v : Value) (e : Ending) (w' : World) : Prop := e = .returned v ∧ Keeps (fun _ => False) w w'

theorem rload_good (h : RRep w F b A gs cs gl ads caps) (k : Nat) (hk : k < A.n) (hon : A.on = true) (hok : A.ok 1000) :
    Calls Try.prog 42 #[.pointer (some ⟨b, 0, none⟩), .int .i64 k] w (RLoaded w (.tuple #[.agg (lnV (A.l k).has), .int .i64 0])) := by
  obtain ⟨o1, o2, o3, o4, o5, o6, o7⟩ := hok
  have D1 : decide ((0 : Int) ≤ (k : Int) ∧ (k : Int) < (A.n : Int)) = true := by simp; omega
  have hk' : (k : Int) < (A.n : Int) := by omega
  have HON := hide hon
  clear hon
  have hz : (#[.int .u64 0, .int .u64 0, .int .u64 0, .int .u64 0, .int .u64 0, .int .u64 0, .int .u64 0, .int .u64 0] : Array Value) = lnV fun _ => 0 := rfl
  have H1 := hide (h.alloc (.cells (lnV fun _ => 0) 26))
  have HK : Hid (Keeps (fun _ => False) w (w.alloc (.cells (lnV fun _ => 0) 26))) := (Keeps.refl _ _).alloc _
  have HB := hide (heap_new w (.cells (lnV fun _ => 0) 26))
  have HF : Hid (¬ F w.heap.size) := h.fresh 0
  have HZ := hide hz
  clear h hz
  go_enter Try.func42, Try.ntmps42
  go_wp2_with fail
  rw [unhide HZ]
  obtain ⟨B, hB⟩ : ∃ B, B = w.heap.size := ⟨_, rfl⟩
  rw [← hB] at HB HF
  rw [← hB]
  have HBB := hide hB
  clear hB
  generalize w.alloc (.cells (lnV fun _ => 0) 26) = W at *
  refine (ris_any (unhide H1) _).mono ?_
  rintro e w1 ⟨rfl, rfl⟩
  have c1 := (unhide H1).c1
  have c2 := (unhide H1).c2
  have cl := (unhide H1).lc k hk
  rw [unhide HON] at c2
  have CH := hide (rhas_any (unhide H1) k (A.l k).t.length hk (Nat.le_refl _) (o3 k) o2 (by have := o4 k; omega))
  rw [D1]
  go_wp2_with fail
  refine (unhide CH).mono ?_
  rintro e w2 ⟨rfl, hk2⟩
  rw [List.take_length]
  obtain ⟨f, hf⟩ : ∃ f, f = runS (A.l k).t (A.l k).s := ⟨_, rfl⟩
  rw [← hf]
  have HFE : Hid (f = (A.l k).has) := hf
  have HB2 : Hid (w2.heap[B]? = some (.cells (lnV fun _ => 0) 26 (0, 0))) := (hk2.block B (lt_of_block (unhide HB)) id).trans (unhide HB)
  have HK2 : Hid (Keeps (fun _ => False) w w2) := (unhide HK).trans' hk2
  clear hf hk2 c1 c2 cl CH
  have s8' : (Try.prog.info? 26).map (·.size) = some (lnV f).size := by rw [lnV_size]; exact lsize
  go_wp2_with (refine wpList_store_row rfl 26 _ _ rfl B (lnV f) rfl rfl _ _ (unhide HB2) s8' (by rw [lnV_size, lnV_size]) (lnV_one _) ?_)
  refine bodyPost_ret (v := .tuple #[.agg (lnV f), .int .i64 0]) (results_line Try.results42 _ _ B 26 (lnV f) (0, 0) _ _ rfl rfl (setRow_heap _ _ _ _ _ _ (unhide HB2)) Try.underlying26 rfl s8') rfl ?_
  rw [← unhide HFE]
  exact ⟨rfl, Keeps.setRow (unhide HK2) (Or.inr (by rw [unhide HBB]; exact Nat.le_refl _)) _⟩

theorem rload_bad (h : RRep w F b A gs cs gl ads caps) (z : Int) (hz : ¬ (0 ≤ z ∧ z < A.n)) :
    Calls Try.prog 42 #[.pointer (some ⟨b, 0, none⟩), .int .i64 z] w (RLoaded w (.tuple #[.agg (lnV fun _ => 0), .int .i64 1])) := by
  have D1 : decide ((0 : Int) ≤ z ∧ z < (A.n : Int)) = false := by simpa using hz
  clear hz
  have hz : (#[.int .u64 0, .int .u64 0, .int .u64 0, .int .u64 0, .int .u64 0, .int .u64 0, .int .u64 0, .int .u64 0] : Array Value) = lnV fun _ => 0 := rfl
  have H1 := hide (h.alloc (.cells (lnV fun _ => 0) 26))
  have HK : Hid (Keeps (fun _ => False) w (w.alloc (.cells (lnV fun _ => 0) 26))) := (Keeps.refl _ _).alloc _
  have HB := hide (heap_new w (.cells (lnV fun _ => 0) 26))
  have HF : Hid (¬ F w.heap.size) := h.fresh 0
  have HZ := hide hz
  clear h hz
  go_enter Try.func42, Try.ntmps42
  go_wp2_with fail
  rw [unhide HZ]
  obtain ⟨B, hB⟩ : ∃ B, B = w.heap.size := ⟨_, rfl⟩
  rw [← hB] at HB HF
  rw [← hB]
  have HBB := hide hB
  clear hB
  generalize w.alloc (.cells (lnV fun _ => 0) 26) = W at *
  refine (ris_any (unhide H1) _).mono ?_
  rintro e w1 ⟨rfl, rfl⟩
  have s8' : (Try.prog.info? 26).map (·.size) = some (lnV fun _ => 0).size := by rw [lnV_size]; exact lsize
  rw [D1]
  go_wp2_with (first | (refine wpList_build0 rfl 26 rfl _ line_zero ?_) | (refine wpList_store_row rfl 26 _ _ rfl B (lnV fun _ => 0) rfl rfl _ _ (unhide HB) s8' (by rw [lnV_size]) (lnV_one _) ?_))
  refine bodyPost_ret (v := .tuple #[.agg (lnV fun _ => 0), .int .i64 1]) (results_line Try.results42 _ _ B 26 (lnV fun _ => 0) (0, 0) _ _ rfl rfl (setRow_heap _ _ _ _ _ _ (unhide HB)) Try.underlying26 rfl s8') rfl ?_
  exact ⟨rfl, Keeps.setRow (unhide HK) (Or.inr (by rw [unhide HBB]; exact Nat.le_refl _)) _⟩

theorem rload_off (h : RRep w F b A gs cs gl ads caps) (z : Int) (hz : 0 ≤ z ∧ z < A.n) (hon : A.on = false) :
    Calls Try.prog 42 #[.pointer (some ⟨b, 0, none⟩), .int .i64 z] w (RLoaded w (.tuple #[.agg (lnV fun _ => 0), .int .i64 4])) := by
  have D1 : decide ((0 : Int) ≤ z ∧ z < (A.n : Int)) = true := by simpa using hz
  have HON := hide hon
  clear hz hon
  have hz : (#[.int .u64 0, .int .u64 0, .int .u64 0, .int .u64 0, .int .u64 0, .int .u64 0, .int .u64 0, .int .u64 0] : Array Value) = lnV fun _ => 0 := rfl
  have H1 := hide (h.alloc (.cells (lnV fun _ => 0) 26))
  have HK : Hid (Keeps (fun _ => False) w (w.alloc (.cells (lnV fun _ => 0) 26))) := (Keeps.refl _ _).alloc _
  have HB := hide (heap_new w (.cells (lnV fun _ => 0) 26))
  have HF : Hid (¬ F w.heap.size) := h.fresh 0
  have HZ := hide hz
  clear h hz
  go_enter Try.func42, Try.ntmps42
  go_wp2_with fail
  rw [unhide HZ]
  obtain ⟨B, hB⟩ : ∃ B, B = w.heap.size := ⟨_, rfl⟩
  rw [← hB] at HB HF
  rw [← hB]
  have HBB := hide hB
  clear hB
  generalize w.alloc (.cells (lnV fun _ => 0) 26) = W at *
  refine (ris_any (unhide H1) _).mono ?_
  rintro e w1 ⟨rfl, rfl⟩
  have c2 := (unhide H1).c2
  rw [unhide HON] at c2
  have s8' : (Try.prog.info? 26).map (·.size) = some (lnV fun _ => 0).size := by rw [lnV_size]; exact lsize
  rw [D1]
  go_wp2_with (first | (refine wpList_build0 rfl 26 rfl _ line_zero ?_) | (refine wpList_store_row rfl 26 _ _ rfl B (lnV fun _ => 0) rfl rfl _ _ (unhide HB) s8' (by rw [lnV_size]) (lnV_one _) ?_))
  refine bodyPost_ret (v := .tuple #[.agg (lnV fun _ => 0), .int .i64 4]) (results_line Try.results42 _ _ B 26 (lnV fun _ => 0) (0, 0) _ _ rfl rfl (setRow_heap _ _ _ _ _ _ (unhide HB)) Try.underlying26 rfl s8') rfl ?_
  exact ⟨rfl, Keeps.setRow (unhide HK) (Or.inr (by rw [unhide HBB]; exact Nat.le_refl _)) _⟩

theorem rload_any (h : RRep w F b A gs cs gl ads caps) (hok : A.ok 1000) (z : Int) :
    Calls Try.prog 42 #[.pointer (some ⟨b, 0, none⟩), .int .i64 z] w (RLoaded w (.tuple #[.agg (lnV (A.hasZ z)), .int .i64 (A.loadE z)])) := by
  unfold Mm.hasZ Mm.loadE
  by_cases c : A.isZ z
  · rw [if_pos c]
    by_cases on : A.on = true
    · rw [if_pos ⟨c, on⟩, if_pos on]
      obtain ⟨c1, c2⟩ := c
      have := rload_good h z.toNat (by omega) on hok
      rw [show ((z.toNat : Nat) : Int) = z by omega] at this
      exact this
    · rw [if_neg (fun h => on h.2), if_neg on]
      exact rload_off h z c (by simpa using on)
  · rw [if_neg (fun h => c h.1), if_neg c]
    exact rload_bad h z c

/-! ### Evict -/
end

end Go.Proofs.Ytmmgacpipcgkdaa
