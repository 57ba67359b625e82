
/-
  Values of plain types, by value: structs and arrays, one in another, of integers and bools alone. What such a value is, cell by cell: each cell an integer that fits its kind, or a bool. Over any program.
-/
import Derived.WalkKit
import Derived.ProofKit
import Derived.OpenShut
namespace Go.Proofs.YtiafhcgaikapcaaGreat
open Go.ChangeShapes Go.WideShapes Go.ChangeAt Go.RowKit

/-- The kinds of a plain type's cells, one by one: an integer of a kind; none: a bool. -/
def flatFields (P : Program) (flat : TypeId → Option (List (Option IntKind))) : List Field → Nat → Option (List (Option IntKind))
  | [], _ => some []
  | f :: fs, off => (flat f.type).bind fun ks =>
    if f.offset = off ∧ P.cellsOf f.type = ks.length then (flatFields P flat fs (off + ks.length)).map fun r => ks ++ r else none
def flat (P : Program) : Nat → TypeId → Option (List (Option IntKind))
  | 0, _ => none
  | n + 1, t => match P.underlying t with
    | some (.int k) => some [some k]
    | some .bool => some [none]
    | some (.array m e) => (flat P n e).bind fun ks => if P.cellsOf e = ks.length ∧ P.cellsOf t = m * ks.length then some (List.replicate m ks).flatten else none
    | some (.struct fs) => (flatFields P (flat P n) fs.toList 0).bind fun ks => if P.cellsOf t = ks.length then some ks else none
    | _ => none

def Fits : Option IntKind → Value → Prop
  | some k, v => ∃ z, v = .int k z ∧ (Lit.int k z).wf = true
  | none, v => ∃ b, v = .bool b
def AllFit : List (Option IntKind) → List Value → Prop
  | [], [] => True
  | k :: ks, v :: vs => Fits k v ∧ AllFit ks vs
  | _, _ => False

theorem allFit_append : ∀ (ks1 : List (Option IntKind)) {ks2 : List (Option IntKind)} {vs1 vs2 : List Value}, AllFit ks1 vs1 → AllFit ks2 vs2 → AllFit (ks1 ++ ks2) (vs1 ++ vs2)
  | [], _, [], _, _, h2 => h2
  | [], _, _ :: _, _, h1, _ => h1.elim
  | _ :: _, _, [], _, h1, _ => h1.elim
  | _ :: ks1, _, _ :: _, _, h1, h2 => ⟨h1.1, allFit_append ks1 h1.2 h2⟩

theorem allFit_length : ∀ (ks : List (Option IntKind)) {vs : List Value}, AllFit ks vs → vs.length = ks.length
  | [], [], _ => rfl
  | [], _ :: _, h => h.elim
  | _ :: _, [], h => h.elim
  | _ :: ks, _ :: _, h => by simp [allFit_length ks h.2]

theorem allFit_rows (ks : List (Option IntKind)) : ∀ (m : Nat) (cs : List Value), cs.length = m * ks.length → (∀ i, i < m → AllFit ks ((cs.drop (i * ks.length)).take ks.length)) → AllFit (List.replicate m ks).flatten cs
  | 0, cs, hl, _ => by
    have : cs = [] := List.length_eq_zero_iff.1 (by simpa using hl)
    subst this; exact trivial
  | m + 1, cs, hl, h => by
    rw [List.replicate_succ, List.flatten_cons, ← List.take_append_drop ks.length cs]
    refine allFit_append ks (by simpa using h 0 (by omega)) (allFit_rows ks m _ ?_ ?_)
    · rw [List.length_drop, hl, Nat.add_mul]; omega
    · intro i hi
      rw [List.drop_drop]
      have := h (i + 1) (by omega)
      rw [Nat.add_mul, Nat.one_mul, Nat.add_comm] at this
      exact this

theorem allFit_fields {P : Program} {fl : TypeId → Option (List (Option IntKind))} : ∀ (fs : List Field) (off : Nat) {ks : List (Option IntKind)} (cs : List Value), flatFields P fl fs off = some ks → cs.length = off + ks.length →
    (∀ f ∈ fs, ∀ ks', fl f.type = some ks' → AllFit ks' ((cs.drop f.offset).take (P.cellsOf f.type))) → AllFit ks (cs.drop off)
  | [], off, ks, cs, h, hl, _ => by
    simp only [flatFields, Option.some.injEq] at h
    subst h
    rw [List.drop_of_length_le (by simp at hl; omega)]
    exact trivial
  | f :: fs, off, ks, cs, h, hl, hf => by
    simp only [flatFields, Option.bind_eq_some_iff] at h
    obtain ⟨k0, h0, h1⟩ := h
    split at h1
    · rename_i hc
      obtain ⟨r, h2, rfl⟩ := Option.map_eq_some_iff.1 h1
      have hfit := hf f (by simp) k0 h0
      rw [hc.1, hc.2] at hfit
      have hrest := allFit_fields fs (off + k0.length) cs h2 (by simp at hl; omega) (fun g hg => hf g (by simp [hg]))
      rw [← List.take_append_drop k0.length (cs.drop off)]
      refine allFit_append k0 hfit ?_
      rw [List.drop_drop]
      exact hrest
    · cases h1

theorem flat_of_trod {H : Type} {enc : TypeId × Value → H} {P : Program} {w : World} {base : Nat} {spare : Nat → Bool} {held : Bool} :
    ∀ (n : Nat) (t : TypeId) {ks : List (Option IntKind)} {fuel : Nat} {cs : List Value} {x : DataW H × List MemPlace}, flat P n t = some ks → DataW.trod enc P w base spare held fuel t cs = some x → AllFit ks cs
  | 0, _, _, _, _, _, h, _ => by simp [flat] at h
  | n + 1, t, ks, fuel, cs, x, h, ht => by
    unfold flat at h
    split at h
    · rename_i k hu
      cases h
      obtain ⟨z, rfl, _, hw⟩ := DataW.trod_int hu ht
      exact ⟨⟨z, rfl, hw⟩, trivial⟩
    · rename_i hu
      cases h
      obtain ⟨b, rfl, _⟩ := DataW.trod_bool hu ht
      exact ⟨⟨b, rfl⟩, trivial⟩
    · rename_i m e hu
      obtain ⟨k0, h0, h1⟩ := Option.bind_eq_some_iff.1 h
      split at h1
      · rename_i hc
        cases h1
        obtain ⟨xs, j, _, _, hl, hx, hi⟩ := DataW.trod_array hu ht
        refine allFit_rows k0 m cs (hl.trans hc.2) fun i him => ?_
        have hs := hi i him
        rw [hc.1] at hs
        rw [List.getElem?_eq_getElem (by omega)] at hs
        exact flat_of_trod n e h0 hs
      · cases h1
    · rename_i fs hu
      obtain ⟨k0, h0, h1⟩ := Option.bind_eq_some_iff.1 h
      split at h1
      · rename_i hc
        cases h1
        obtain ⟨xs, j, _, _, hl, hx, hi⟩ := DataW.trod_struct hu ht
        have := allFit_fields fs.toList 0 cs h0 (by omega) (fun f hf ks' hk => by
          obtain ⟨i, hlt, rfl⟩ := List.getElem_of_mem hf
          have hs := hi i fs.toList[i] (by rw [← Array.getElem?_toList]; exact List.getElem?_eq_getElem hlt)
          have hlt' : i < xs.length := by simpa [hx] using hlt
          rw [List.getElem?_eq_getElem hlt'] at hs
          exact flat_of_trod n _ hk hs)
        simpa using this
      · cases h1
    · cases h

/-- A value of a plain aggregate type that can be read: its cells, each fitting. -/
theorem flat_open {H : Type} {enc : TypeId × Value → H} {P : Program} {w : World} {r : Reach} {b0 base : Nat} {spare : Nat → Bool} {held : Bool} {t : TypeId} {v : Value} {d : DataW H} {p : List MemPlace} (n : Nat) {ks : List (Option IntKind)}
    (hk : flat P n t = some ks) (hagg : (∃ fs, P.underlying t = some (.struct fs)) ∨ ∃ m e, P.underlying t = some (.array m e))
    (hv : Value.okWide P w r b0 t v) (h : DataW.Trod enc P w base spare held t v d p) : ∃ cs, v = .agg cs ∧ AllFit ks cs.toList := by
  obtain ⟨fuel, hf⟩ := h
  have : ∃ cs, v = .agg cs := by
    rcases hagg with ⟨fs, hu⟩ | ⟨m, e, hu⟩
    · simp only [Value.okWide, hu] at hv
      obtain ⟨cs, h1, _⟩ := hv
      exact ⟨cs, h1⟩
    · simp only [Value.okWide, hu] at hv
      obtain ⟨cs, h1, _⟩ := hv
      exact ⟨cs, h1⟩
  obtain ⟨cs, rfl⟩ := this
  exact ⟨cs, rfl, flat_of_trod n t hk (by simpa [Value.cells] using hf)⟩

/-- A row of integers of one kind. -/
theorem allFit_ints (k : IntKind) : ∀ (n : Nat) (vs : List Value), AllFit (List.replicate n (some k)) vs → ∃ zs : List Int, zs.length = n ∧ vs = zs.map (fun z => Value.int k z) ∧ ∀ z ∈ zs, (Lit.int k z).wf = true
  | 0, [], _ => ⟨[], rfl, rfl, by simp⟩
  | 0, _ :: _, h => h.elim
  | _ + 1, [], h => by simp [List.replicate_succ, AllFit] at h
  | n + 1, v :: vs, h => by
    rw [List.replicate_succ] at h
    obtain ⟨⟨z, rfl, hz⟩, hr⟩ := h
    obtain ⟨zs, h1, rfl, h3⟩ := allFit_ints k n vs hr
    refine ⟨z :: zs, by simp [h1], by simp, ?_⟩
    intro y hy
    rcases List.mem_cons.1 hy with rfl | hy
    · exact hz
    · exact h3 y hy

end Go.Proofs.YtiafhcgaikapcaaGreat
