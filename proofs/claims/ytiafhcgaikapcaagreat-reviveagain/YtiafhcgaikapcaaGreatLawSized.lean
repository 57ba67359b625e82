
/-
  The frame of a law's proof, as in the text Law, for a law that makes as much as came in: its walk is handed the reach. Over any program.
-/
import Derived.Test.YtiafhcgaikapcaaGreatLaw
import Derived.SizedLaws
namespace Go.Proofs.YtiafhcgaikapcaaGreat
open Go.ChangeShapes Go.WideShapes Go.ChangeAt Go.RowKit

/-- The row's step, once for all laws without package variables; the walk is handed that each slice that came in takes at most so many bytes. -/
theorem law_frame_sized {H : Type} {enc : TypeId × Value → H} {C : Checked} {os : Os} {F : FuncId} {f : Func} {s : ChangeSpec} {conds : List PathCond} {ts : List TypeId} {tb : TypeId}
    (own : ownKnob C.prog.godebug = none) (started : os.Started) (hi : C.prog.inits.idxOf? F = none) (hf : C.prog.funcs[F]? = some f)
    (hp : f.params = ts.toArray) (hr : f.resultTypes = #[tb]) (ub : C.prog.underlying tb = some .bool) (hl : laidOutB C.prog = true)
    (hts : (ts.all fun t => C.prog.readableRec t && decide (t < C.prog.types.size)) = true) (hv : s.vars = [])
    (hs : ∀ (ds : List (DataW H)), ds.length = ts.length → s.fn H ds = { results := [.lit (.bool true)], args := ds })
    (wit : ∃ (w : World) (tape : _) (i : Input), w.os = os ∧ World.Shaped C.prog (w.forCall tape i) ∧ i.vars = [] ∧ Input.okWide C.prog (w.forCall tape i) Reach.any w.heap.size F i ∧
      ChangeSpec.pre6 enc C.prog f s conds false (w.forCall tape i).memory i.args ∧ Assume.holds {} C.prog (lone (Frame.enter C.prog F i.args CallKind.normal) [] (w.forCall tape i)))
    (walk : ∀ (W : World) (base : Nat) (args : Array Value) (ds : List (DataW H)) (p : List MemPlace),
      (∀ (j : Nat) (t : TypeId) (v : Value), ts[j]? = some t → args[j]? = some v → Value.okWide C.prog W Reach.any base t v) →
      DataW.TrodAll enc C.prog W 0 (fun _ => true) true ts args.toList ds p → (DataW.weightsEach C.prog ts ds).all (· ≤ reachBytes) = true →
      Calls C.prog F args W fun e W' => e = .returned (.bool true) ∧ Below W.heap.size W W') :
    ReturnsInHanded {} C os F .any (s.pre6 enc C.prog f conds false) (s.post enc C.prog f false true false false) := by
  refine returnsInHanded_of_change_sized (C := C) own started hi hf wit ?_
  intro W base args ds gs before hval0 hW hcnd hsz0 _
  have hW' := hW
  obtain ⟨p, q, hA, hV, rfl, hfz, hnd⟩ := hW
  have hpl : f.params.toList = ts := by rw [hp]
  rw [hpl] at hA
  rw [hv] at hV
  obtain ⟨rfl, rfl⟩ := trodVars_none hV
  have hlen := (trodAll_length ts hA).1
  have hsz : (DataW.weightsEach C.prog ts ds).all (· ≤ reachBytes) = true := by
    have h1 : s.plain.varTypes C.prog = [] := by simp [ChangeSpec.plain, DataSpec.varTypes, hv]
    rw [hpl, h1, List.append_nil, List.append_nil] at hsz0
    exact hsz0
  refine (walk W base args ds p (fun j t v h1 h2 => hval0 j t v (by rw [hp]; simpa using h1) h2) hA hsz).mono fun e W' ⟨he, bel⟩ => ?_
  subst he
  have hfn : s.fn H (ds ++ []) = { results := [.lit (.bool true)], args := ds } := by rw [List.append_nil]; exact hs ds hlen
  refine ⟨_, rfl, ds, [], p ++ [], [], p, [], hW', ?_, ?_, ?_, bel.frame _, fun h => by cases h⟩
  · rw [hfn, hr]
    exact trodAll_cons_mk (shut_bool ub _) trodAll_mk0
  · rw [hfn, hpl]
    exact trodAll_stays hl bel ts hts hA
  · rw [hfn, hv]
    exact rfl


end Go.Proofs.YtiafhcgaikapcaaGreat
