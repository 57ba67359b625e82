
/-
  What frames.New and Clone make.
-/
import Derived.Test.YtiafhcgaikapcaaGreatFCalls
namespace Go.Proofs.YtiafhcgaikapcaaGreat
open Go.ChangeShapes Go.WideShapes Go.ChangeAt Go.RowKit Go.Joins
set_option maxRecDepth 10000
set_option linter.unusedVariables false
set_option linter.unusedSimpArgs false

theorem built_frames (lo hi : Nat) : Tryz.prog.built 144 [(0, .int .i64 (lo : Int)), (1, .int .i64 (hi : Int))] = some (frV (Fr.new lo hi)) := by kernel_rfl
/-- An aggregate built of its first two parts. -/
theorem wpList_build01 {P : Program} {ops : Array Oper} {rest : List Oper} {o : Oper} {a : Act} {w : World} {Q : Exit → Act → World → Prop} (hg : o.guard = none) (t : TypeId) (x y : Operand) (ho : o.op = .build t #[(0, x), (1, y)]) (u v : Value) (hx : a.eval x = u) (hy : a.eval y = v) (cs : Array Value)
    (hb : P.built t [(0, u), (1, v)] = some cs) (h : wpList P ops Q rest (a.put o.dst (.agg cs)) w) : wpList P ops Q (o :: rest) a w := by
  subst hx hy
  exact wpList_build hg t #[(0, x), (1, y)] ho (by simp [hb]) (by simpa [hb] using h)
theorem frsize : (Tryz.prog.info? 144).map (·.size) = some 1026 := by kernel_rfl
theorem info_frames : (Tryz.prog.info? 144).map (·.zero) = some (some (.agg (frV (Fr.new 0 0)))) := by kernel_rfl

/-- A new variable of a great type: its block holds the type's zero. -/
theorem wpList_allocZ {P : Program} {ops : Array Oper} {rest : List Oper} {o : Oper} {a : Act} {w : World} {Q : Exit → Act → World → Prop} (hg : o.guard = none) (t : TypeId) (ho : o.op = .alloc t) (z : Array Value) (hz : (P.info? t).map (·.zero) = some (some (.agg z)))
    (h : wpList P ops Q rest (a.put o.dst (.pointer (some ⟨w.heap.size, 0, none⟩))) (w.alloc (.cells z t))) : wpList P ops Q (o :: rest) a w := by
  refine wpList_plain hg fun K hK => ?_
  cases hi : P.info? t with
  | none => rw [hi] at hz; simp at hz
  | some i =>
    rw [hi] at hz
    have hz' : i.zero = some (.agg z) := by simpa using hz
    have hr : (zeroValue t).run P w = .ok (.agg z) w := by
      unfold zeroValue
      have ht : (typeInfo t).run P w = .ok i w := by
        unfold typeInfo
        simp [go_sem, hi]
      rw [Sem.run_bind, ht]
      simp [hz']
    unfold Oper.wp execOp
    simp only [ho, Instr.alloc, Sem.run_bind, hr, Result.andThen_ok, newVar, newRow, run_newObj_alloc, Sem.run_pure, Value.cells]
    exact hK _ _ h

def FMade (w : World) (A : Fr) (e : Ending) (w' : World) : Prop :=
  ∃ b, e = .returned (.tuple #[.pointer (some ⟨b, 0, none⟩), .int .i64 0]) ∧ FRep w' b A ∧ Keeps (fun _ => False) w w' ∧ w.heap.size ≤ b

theorem fnew_any (w : World) (lo hi : Nat) (h1 : lo ≤ hi) (h2 : hi ≤ 1024) : Calls Tryz.prog 127 #[.int .i64 (lo : Int), .int .i64 (hi : Int)] w (FMade w (Fr.new lo hi)) := by
  have g1 : ¬ ((lo : Int) < 0) := by omega
  have g2 : ¬ ((hi : Int) < (lo : Int)) := by omega
  have g3 : ¬ ((1024 : Int) < (hi : Int)) := by omega
  have HB := hide (built_frames lo hi)
  obtain ⟨V, hV⟩ : ∃ V, V = frV (Fr.new lo hi) := ⟨_, rfl⟩
  rw [← hV] at HB
  have HV := hide hV
  clear hV
  go_enter Tryz.func127, Tryz.ntmps127
  go_wp2_with (with_reducible refine wpList_build01 (by with_unfolding_all rfl) 144 _ _ (by with_unfolding_all rfl) (.int .i64 (lo : Int)) (.int .i64 (hi : Int)) (by with_unfolding_all rfl) (by with_unfolding_all rfl) V (unhide HB) ?_)
  go_ret2
  refine ⟨w.heap.size, rfl, ?_, (Keeps.refl _ _).alloc _, Nat.le_refl _⟩
  unfold FRep
  rw [← unhide HV]
  exact heap_new w _

theorem fnew_bad (w : World) (x y : Int) (h : x < 0 ∨ y < x ∨ 1024 < y) : Calls Tryz.prog 127 #[.int .i64 x, .int .i64 y] w fun e w' => e = .returned (.tuple #[.pointer none, .int .i64 1]) ∧ w' = w := by
  by_cases h1 : x < 0
  · clear h
    go_enter Tryz.func127, Tryz.ntmps127
    go_wp2_with fail
    go_ret2
    exact ⟨rfl, rfl⟩
  · by_cases h2 : y < x
    · clear h
      go_enter Tryz.func127, Tryz.ntmps127
      go_wp2_with fail
      go_ret2
      exact ⟨rfl, rfl⟩
    · have h3 : 1024 < y := by omega
      clear h
      go_enter Tryz.func127, Tryz.ntmps127
      go_wp2_with fail
      go_ret2
      exact ⟨rfl, rfl⟩

theorem fclone_any {w : World} {b : Nat} {A : Fr} (h : FRep w b A) : Calls Tryz.prog 96 #[.pointer (some ⟨b, 0, none⟩)] w fun e w' =>
    ∃ b', e = .returned (.pointer (some ⟨b', 0, none⟩)) ∧ FRep w' b' A ∧ FRep w' b A ∧ Keeps (fun _ => False) w w' ∧ w.heap.size ≤ b' := by
  obtain ⟨c, hc⟩ : ∃ c, c = frV A := ⟨_, rfl⟩
  obtain ⟨z, hz⟩ : ∃ z, z = frV (Fr.new 0 0) := ⟨_, rfl⟩
  have hs : z.size = c.size := by rw [hz, hc, frV_size, frV_size]
  have h1 : c.all (·.oneCell') = true := by rw [hc]; exact frV_one A
  have hi : (Tryz.prog.info? 144).map (·.size) = some c.size := by rw [hc, frV_size]; exact frsize
  have hzi : (Tryz.prog.info? 144).map (·.zero) = some (some (.agg z)) := by rw [hz]; exact info_frames
  have hb : w.heap[b]? = some (.cells c 144 (0, 0)) := by rw [hc]; exact h
  have HB := hide hb
  have HI := hide hi
  have HZ := hide hzi
  have HC := hide hc
  have H := hide h
  have HS := hide hs
  have H1 := hide h1
  clear hb hi hzi hc hz hs h1 h
  go_enter Tryz.func96, Tryz.ntmps96
  go_wp2_with (first | (refine wpList_load_row rfl 144 _ rfl b rfl _ _ _ _ (unhide HB) Tryz.underlying144 rfl (unhide HI) ?_) | (refine wpList_allocZ rfl 144 rfl z (unhide HZ) ?_) | (refine wpList_store_row rfl 144 _ _ rfl w.heap.size c rfl rfl 144 z (heap_new w _) (unhide HI) (unhide HS) (unhide H1) ?_; rw [setRow_alloc]))
  go_ret
  refine ⟨w.heap.size, rfl, ?_, (unhide H).keeps (F := fun _ => False) ((Keeps.refl _ _).alloc _) id, (Keeps.refl _ _).alloc _, Nat.le_refl _⟩
  rw [unhide HC]
  exact heap_new w _

end Go.Proofs.YtiafhcgaikapcaaGreat
