
/-
  What Load and Evict do.
-/
import Derived.Test.YtnjicfnigfkppabNStep
import Derived.Laws.ResultCell
namespace Go.Proofs.Ytnjicfnigfkppab
open Go.ChangeShapes Go.WideShapes Go.ChangeAt Go.RowKit Go.Joins
set_option linter.unusedVariables false
set_option linter.unusedSimpArgs false

/-- A line by value. -/
def lnV (f : Nat → Int) : Array Value := tab 8 fun j => .int .u64 (f j)
theorem lnV_size (f : Nat → Int) : (lnV f).size = 8 := tab_size _ _
theorem lnV_one (f : Nat → Int) : (lnV f).all (·.oneCell') = true := by simp [lnV, tab, Value.oneCell']
theorem lsize : (Try.prog.info? 32).map (·.size) = some 8 := by kernel_rfl
theorem line_zero : Try.prog.built 32 [] = some (lnV fun _ => 0) := by kernel_rfl

theorem results_line {fn : Func} {p u : Tmp} {P : Program} {ty : TypeId} (h : fn.results = #[.cell p ty, .tmp u]) (tmps : Array Value) (w : World) (g : Nat) (t : TypeId) (cs : Array Value) (fr : Nat × Nat) (d : TypeDesc) (v : Value)
    (hp : tmps.getD p undef = .pointer (some ⟨g, 0, none⟩)) (hv : tmps.getD u undef = v) (hg : w.heap[g]? = some (.cells cs t fr))
    (hu : P.underlying ty = some d) (hd : (match d with | .struct _ | .array _ _ => true | _ => false) = true) (hi : (P.info? ty).map (·.size) = some cs.size) :
    (results fn tmps).run P w = .ok (.tuple #[.agg cs, v]) w := by
  rw [results_cell_tmp h, hp, hv]
  simp [asAddr, run_loadVar_row w g t ty cs fr d hg hu hd hi]

theorem load_any {w : World} {F : Nat → Prop} {b c : Nat} {A : Mm} {cs : Nat → Cel} (h : Rep w F b A c cs) (z : Int) (k : Nat) (ez : z = (k : Int)) (hk : k < A.n) (hon : A.on = true) (hn : A.n ≤ 1024) :
    Calls Try.prog 29 #[.pointer (some ⟨b, 0, none⟩), .int .i64 z] w (Went F w b c A (.tuple #[.agg (lnV (A.l k).has), .int .i64 0])) := by
  subst ez
  have D1 : decide ((0 : Int) ≤ (k : Int) ∧ (k : Int) < (A.n : Int)) = true := by simp; omega
  have hk' : (k : Int) < (A.n : Int) := by omega
  have HON := hide hon
  clear hon
  have hz : (#[.int .u64 0, .int .u64 0, .int .u64 0, .int .u64 0, .int .u64 0, .int .u64 0, .int .u64 0, .int .u64 0] : Array Value) = lnV fun _ => 0 := rfl
  have H := hide h
  have H1 := hide (h.alloc (.cells (lnV fun _ => 0) 32))
  have HK : Hid (Keeps F w (w.alloc (.cells (lnV fun _ => 0) 32))) := (Keeps.refl _ _).alloc _
  have HB := hide (heap_new w (.cells (lnV fun _ => 0) 32))
  have HF : Hid (¬ F w.heap.size) := h.fresh 0
  have HZ := hide hz
  clear h hz
  go_enter Try.func29, Try.ntmps29
  go_wp2_with fail
  rw [unhide HZ]
  obtain ⟨B, hB⟩ : ∃ B, B = w.heap.size := ⟨_, rfl⟩
  rw [← hB] at HB HF
  rw [← hB]
  have HBB := hide hB
  clear hB
  generalize w.alloc (.cells (lnV fun _ => 0) 32) = W at *
  refine (isLine_any (unhide H1) _).mono ?_
  rintro e w1 ⟨rfl, rfl⟩
  obtain ⟨K0, c0⟩ := (unhide H1).c0
  have c1 := (unhide H1).c1
  rw [unhide HON] at c1
  have HR := hide ((unhide H1).hasR k hk)
  have s8 : (Try.prog.info? 32).map (·.size) = some ((List.range 8).map fun j => Value.int .u64 ((A.l k).has j)).length := by rw [List.length_map, List.length_range]; exact lsize
  have s8' : (Try.prog.info? 32).map (·.size) = some (lnV (A.l k).has).size := by rw [lnV_size]; exact lsize
  rw [D1]
  go_wp2_with (first | (refine wpList_load_mid rfl 32 _ rfl c (k * 25 + 8) rfl _ _ (unhide HR) Try.underlying32 rfl s8 ?_) | (refine wpList_store_row rfl 32 _ _ rfl B (lnV (A.l k).has) rfl rfl _ _ (unhide HB) s8' (by rw [lnV_size, lnV_size]) (lnV_one _) ?_))
  refine bodyPost_ret (v := .tuple #[.agg (lnV (A.l k).has), .int .i64 0]) (results_line Try.results29 _ _ B 32 (lnV (A.l k).has) (0, 0) _ _ rfl rfl (setRow_heap _ _ _ _ _ _ (unhide HB)) Try.underlying32 rfl s8') rfl ?_
  exact ⟨rfl, F, cs, (unhide H1).keeps (G := (· = B)) (Keeps.setRow (F := (· = B)) (Keeps.refl _ _) (Or.inl rfl) _) (fun x hx e => unhide HF (e ▸ hx)), Keeps.setRow (unhide HK) (Or.inr (by rw [unhide HBB]; exact Nat.le_refl _)) _, Grew.refl _ _⟩

theorem load_bad {w : World} {F : Nat → Prop} {b c : Nat} {A : Mm} {cs : Nat → Cel} (h : Rep w F b A c cs) (z : Int) (hz : ¬ (0 ≤ z ∧ z < A.n)) :
    Calls Try.prog 29 #[.pointer (some ⟨b, 0, none⟩), .int .i64 z] w (Went F w b c A (.tuple #[.agg (lnV fun _ => 0), .int .i64 1])) := by
  have D1 : decide ((0 : Int) ≤ z ∧ z < (A.n : Int)) = false := by simpa using hz
  clear hz
  have hz : (#[.int .u64 0, .int .u64 0, .int .u64 0, .int .u64 0, .int .u64 0, .int .u64 0, .int .u64 0, .int .u64 0] : Array Value) = lnV fun _ => 0 := rfl
  have H := hide h
  have H1 := hide (h.alloc (.cells (lnV fun _ => 0) 32))
  have HK : Hid (Keeps F w (w.alloc (.cells (lnV fun _ => 0) 32))) := (Keeps.refl _ _).alloc _
  have HB := hide (heap_new w (.cells (lnV fun _ => 0) 32))
  have HF : Hid (¬ F w.heap.size) := h.fresh 0
  have HZ := hide hz
  clear h hz
  go_enter Try.func29, Try.ntmps29
  go_wp2_with fail
  rw [unhide HZ]
  obtain ⟨B, hB⟩ : ∃ B, B = w.heap.size := ⟨_, rfl⟩
  rw [← hB] at HB HF
  rw [← hB]
  have HBB := hide hB
  clear hB
  generalize w.alloc (.cells (lnV fun _ => 0) 32) = W at *
  refine (isLine_any (unhide H1) _).mono ?_
  rintro e w1 ⟨rfl, rfl⟩
  have s8' : (Try.prog.info? 32).map (·.size) = some (lnV fun _ => 0).size := by rw [lnV_size]; exact lsize
  rw [D1]
  go_wp2_with (first | (refine wpList_build0 rfl 32 rfl _ line_zero ?_) | (refine wpList_store_row rfl 32 _ _ rfl B (lnV fun _ => 0) rfl rfl _ _ (unhide HB) s8' (by rw [lnV_size]) (lnV_one _) ?_))
  refine bodyPost_ret (v := .tuple #[.agg (lnV fun _ => 0), .int .i64 1]) (results_line Try.results29 _ _ B 32 (lnV fun _ => 0) (0, 0) _ _ rfl rfl (setRow_heap _ _ _ _ _ _ (unhide HB)) Try.underlying32 rfl s8') rfl ?_
  exact ⟨rfl, F, cs, (unhide H1).keeps (G := (· = B)) (Keeps.setRow (F := (· = B)) (Keeps.refl _ _) (Or.inl rfl) _) (fun x hx e => unhide HF (e ▸ hx)), Keeps.setRow (unhide HK) (Or.inr (by rw [unhide HBB]; exact Nat.le_refl _)) _, Grew.refl _ _⟩

theorem load_off {w : World} {F : Nat → Prop} {b c : Nat} {A : Mm} {cs : Nat → Cel} (h : Rep w F b A c cs) (z : Int) (hz : 0 ≤ z ∧ z < A.n) (hon : A.on = false) :
    Calls Try.prog 29 #[.pointer (some ⟨b, 0, none⟩), .int .i64 z] w (Went F w b c A (.tuple #[.agg (lnV fun _ => 0), .int .i64 4])) := by
  have D1 : decide ((0 : Int) ≤ z ∧ z < (A.n : Int)) = true := by simpa using hz
  have HON := hide hon
  clear hz hon
  have hz : (#[.int .u64 0, .int .u64 0, .int .u64 0, .int .u64 0, .int .u64 0, .int .u64 0, .int .u64 0, .int .u64 0] : Array Value) = lnV fun _ => 0 := rfl
  have H := hide h
  have H1 := hide (h.alloc (.cells (lnV fun _ => 0) 32))
  have HK : Hid (Keeps F w (w.alloc (.cells (lnV fun _ => 0) 32))) := (Keeps.refl _ _).alloc _
  have HB := hide (heap_new w (.cells (lnV fun _ => 0) 32))
  have HF : Hid (¬ F w.heap.size) := h.fresh 0
  have HZ := hide hz
  clear h hz
  go_enter Try.func29, Try.ntmps29
  go_wp2_with fail
  rw [unhide HZ]
  obtain ⟨B, hB⟩ : ∃ B, B = w.heap.size := ⟨_, rfl⟩
  rw [← hB] at HB HF
  rw [← hB]
  have HBB := hide hB
  clear hB
  generalize w.alloc (.cells (lnV fun _ => 0) 32) = W at *
  refine (isLine_any (unhide H1) _).mono ?_
  rintro e w1 ⟨rfl, rfl⟩
  have c1 := (unhide H1).c1
  rw [unhide HON] at c1
  have s8' : (Try.prog.info? 32).map (·.size) = some (lnV fun _ => 0).size := by rw [lnV_size]; exact lsize
  rw [D1]
  go_wp2_with (first | (refine wpList_build0 rfl 32 rfl _ line_zero ?_) | (refine wpList_store_row rfl 32 _ _ rfl B (lnV fun _ => 0) rfl rfl _ _ (unhide HB) s8' (by rw [lnV_size]) (lnV_one _) ?_))
  refine bodyPost_ret (v := .tuple #[.agg (lnV fun _ => 0), .int .i64 4]) (results_line Try.results29 _ _ B 32 (lnV fun _ => 0) (0, 0) _ _ rfl rfl (setRow_heap _ _ _ _ _ _ (unhide HB)) Try.underlying32 rfl s8') rfl ?_
  exact ⟨rfl, F, cs, (unhide H1).keeps (G := (· = B)) (Keeps.setRow (F := (· = B)) (Keeps.refl _ _) (Or.inl rfl) _) (fun x hx e => unhide HF (e ▸ hx)), Keeps.setRow (unhide HK) (Or.inr (by rw [unhide HBB]; exact Nat.le_refl _)) _, Grew.refl _ _⟩

/-! ### Evict -/
theorem Rep.settled {w w' : World} {F : Nat → Prop} {b c : Nat} {A : Mm} {cs : Nat → Cel} (h : Rep w F b A c cs) (k : Nat) (hk : k < A.n) (n : Nat) (hn : n ≤ (A.l k).t.length) (hK : Keeps (· = c) w w')
    (hb : Blk w' c (A.n * 25) 60 (putC (encF cs) (k * 25) ((cs k).settle n))) : Rep w' F b ⟨A.n, upd A.l k ((A.l k).settle n), A.on, A.fuse, A.steps⟩ c (upd cs k ((cs k).settle n)) := by
  have := h.line_same k hk ((cs k).settle n) hK hb (((h.row k hk).settle n (by rw [h.ln k]; exact hn)).keeps hK fun g hg e => by rw [Cel.settle_blk] at hg; exact (h.ap k hk g hg).2.1 e) (fun g hg => by rw [Cel.settle_blk] at hg; exact hg)
  rw [show ((cs k).settle n).l = (A.l k).settle n by rw [← h.ln k]; rfl] at this
  exact this
end Go.Proofs.Ytnjicfnigfkppab
