
/-
  A row of lines among the arguments; a row of lines that the call itself owns.
-/
import Derived.Test.YtiafhcgaikapcaaGreatNSame
import Derived.Test.YtiafhcgaikapcaaGreatFlat
import Derived.SizedLaws
namespace Go.Proofs.YtiafhcgaikapcaaGreat
open Go.ChangeShapes Go.WideShapes Go.ChangeAt Go.RowKit Go.Joins Go.Deep
set_option maxRecDepth 10000
set_option linter.unusedVariables false
set_option linter.unusedSimpArgs false

/-- A row of lines that came in. -/
def IsLines (W : World) (a : Option Addr) (n cap : Nat) (s : Nat → Nat → Int) : Prop :=
  LinesAt W a n s ∧ (∀ i j, InU (s i j)) ∧ n ≤ cap ∧ cap * 64 ≤ 140737488351232 ∧ (a = none → n = 0 ∧ cap = 0)

def ints8 : List (Option IntKind) := List.replicate 8 (some .u64)
theorem fit8 {cs : List Value} (h : AllFit ints8 cs) : ∃ f : Nat → Int, cs = (List.range 8).map (fun j => .int .u64 (f j)) ∧ ∀ j, InU (f j) := by
  obtain ⟨zs, hl, rfl, hw⟩ := allFit_ints .u64 8 cs h
  refine ⟨fun j => zs.getD j 0, ?_, fun j => ?_⟩
  · apply List.ext_getElem?
    intro j
    by_cases hj : j < 8
    · simp [hj, hl]
    · rw [List.getElem?_eq_none (by simp [hl]; omega), List.getElem?_eq_none (by simp; omega)]
  · by_cases hj : j < zs.length
    · have := hw zs[j] (by simp)
      simp only [List.getD_eq_getElem?_getD, List.getElem?_eq_getElem hj, Option.getD_some]; exact inU_wf this
    · simp only [List.getD_eq_getElem?_getD, List.getElem?_eq_none (Nat.le_of_not_lt hj), Option.getD_none]; exact ⟨by decide, by decide⟩

theorem open_lines {H : Type} {enc : TypeId × Value → H} {W : World} {r : Reach} {b0 : Nat} {v : Value} {d : DataW H} {p : List MemPlace} (hv : Value.okWide Tryz.prog W r b0 35 v)
    (h : DataW.Trod enc Tryz.prog W 0 (fun _ => true) true 35 v d p) (hsz : (DataW.weightsEach Tryz.prog [35] [d]).all (· ≤ reachBytes) = true) :
    ∃ (a : Option Addr) (n cap : Nat) (s : Nat → Nat → Int), v = .slice a n cap ∧ IsLines W a n cap s := by
  obtain ⟨a, len, cap, rfl⟩ := okWide_slice Tryz.underlying35 hv
  obtain ⟨fuel, hf⟩ := h
  have k8 : Tryz.prog.cellsOf 83 = 8 := by kernel_rfl
  have kb : Tryz.prog.bytesOf 83 = 64 := by kernel_rfl
  rcases open_slice Tryz.underlying35 hf with ⟨hcs, _⟩ | ⟨x, l, c, m, n, D, Pl, hcs, hb, hl, hm, hmm, hd, hx⟩
  · simp [Value.cells] at hcs
    obtain ⟨rfl, rfl, rfl⟩ := hcs
    exact ⟨none, 0, 0, fun _ _ => 0, rfl, Or.inl rfl, fun _ _ => (⟨by decide, by decide⟩ : InU 0), Nat.le_refl _, by decide, fun _ => ⟨rfl, rfl⟩⟩
  · simp [Value.cells] at hcs
    obtain ⟨rfl, rfl, rfl⟩ := hcs
    rw [k8] at hx
    have hmc : m = cap := by rw [hmm]; rfl
    subst hmc
    simp only [Prod.mk.injEq] at hd
    obtain ⟨hd1, _⟩ := hd
    have hw := sized_slice hsz (j := 0) (t := 35) (e := 83) rfl (by rw [hd1]; rfl) Tryz.underlying35
    rw [kb] at hw
    simp only [List.length_map, List.length_range, reachBytes] at hw
    obtain ⟨s, hs⟩ := choose_lt (α := Nat → Int) (n := len) (p := fun i f => (∀ j, j < 8 → W.cell? (x.add (i * 8 + j)) = some (.int .u64 (f j))) ∧ ∀ j, InU (f j)) (fun i hi => by
      obtain ⟨cs', h1, h2⟩ := hx i (by omega)
      obtain ⟨_, hlen, hcell⟩ := World.cells?_some h1
      obtain ⟨f, rfl, hfu⟩ := fit8 (flat_of_trod (P := Tryz.prog) 3 83 (ks := ints8) (by kernel_rfl) h2)
      refine ⟨f, fun j hj => ?_, hfu⟩
      have := hcell j hj
      rw [add_add] at this
      rw [this]; simp [hj])
    refine ⟨some x, len, m, fun i => if i < len then s i else fun _ => 0, rfl, ?_, fun i j => ?_, hl, by omega, fun h => by simp at h⟩
    · by_cases h0 : len = 0
      · exact Or.inl h0
      · right
        obtain ⟨b, off, spot⟩ := x
        have hspot : spot = none := by simpa [Addr.add] using World.cell?_spot ((hs 0 (by omega)).1 0 (by omega))
        subst hspot
        refine ⟨b, off, rfl, fun i hi j u hj => ?_⟩
        simp only [hi, if_true] at hj
        have hj8 : j < 8 := by
          rcases Nat.lt_or_ge j 8 with h | h
          · exact h
          · rw [List.getElem?_eq_none (by simpa using h)] at hj; simp at hj
        have := (hs i hi).1 j hj8
        rw [Addr.add_mid] at this
        rw [show off + i * 8 + j = off + (i * 8 + j) by omega, this]
        simpa [hj8] using hj
    · by_cases hi : i < len
      · simp only [hi, if_true]; exact (hs i hi).2 j
      · simp only [hi, if_false]; exact ⟨by decide, by decide⟩

/-- The cells of lines, one behind the other. -/
def linesV (n : Nat) (s : Nat → Nat → Int) : List Value := (List.range (n * 8)).map fun i => .int .u64 (s (i / 8) (i % 8))
theorem linesV_len (n : Nat) (s : Nat → Nat → Int) : (linesV n s).length = n * 8 := by simp [linesV]
theorem linesV_one (n : Nat) (s : Nat → Nat → Int) : ∀ u ∈ linesV n s, u.oneCell' = true := by
  intro u hu
  simp only [linesV, List.mem_map] at hu
  obtain ⟨i, _, rfl⟩ := hu; rfl
theorem lines_cells {W : World} {b off n : Nat} {s : Nat → Nat → Int} (h : ∀ i, i < n → W.rangeAt b (off + i * 8) ((List.range 8).map fun j => .int .u64 (s i j))) :
    ∀ j u, (linesV n s)[j]? = some u → W.cell? ((⟨b, off, none⟩ : Addr).add j) = some u := by
  intro j u hj
  have hjl : j < n * 8 := by
    rcases Nat.lt_or_ge j (n * 8) with h | h
    · exact h
    · rw [List.getElem?_eq_none (by rw [linesV_len]; exact h)] at hj; simp at hj
  have hq := h (j / 8) (by omega) (j % 8) (.int .u64 (s (j / 8) (j % 8))) (by simp [show j % 8 < 8 by omega])
  rw [Addr.add_mid, show off + j = off + j / 8 * 8 + j % 8 by omega, hq]
  simpa [linesV, hjl] using hj
/-- A row of lines that the call itself owns. -/
theorem own_lines {w : World} {base : Nat} {v : Value} {n : Nat} {s : Nat → Nat → Int} (h : w.ownsRow base 83 8 v n (linesV n s)) (hv : v ≠ .slice none 0 0) :
    ∃ g cap, v = .slice (some ⟨g, 0, none⟩) n cap ∧ base ≤ g ∧ g < w.heap.size ∧ n ≤ cap ∧ (∀ i, i < n → w.rangeAt g (i * 8) ((List.range 8).map fun j => .int .u64 (s i j))) ∧ w.there g 0 (n * 8) := by
  rcases h.2 with ⟨rfl, _⟩ | ⟨g, cap, cur, rfl, hb, hg, hnc, hcm, hcs, htake⟩
  · exact absurd rfl hv
  · have hc : ∀ j, j < n * 8 → w.cell? ⟨g, j, none⟩ = some (.int .u64 (s (j / 8) (j % 8))) := fun j hj => by
      rw [h.cellAt j hj]; simp [linesV, hj]
    refine ⟨g, cap, rfl, hb, lt_of_block hg, hnc, fun i hi j u hu => ?_, fun j hj => ⟨by rw [Nat.zero_add, hc j hj]; rfl, unfrozen_of_block hg _⟩⟩
    have hj8 : j < 8 := by
      rcases Nat.lt_or_ge j 8 with h | h
      · exact h
      · rw [List.getElem?_eq_none (by simpa using h)] at hu; simp at hu
    rw [hc (i * 8 + j) (by omega), show (i * 8 + j) / 8 = i by omega, show (i * 8 + j) % 8 = j by omega]
    simpa [hj8] using hu

end Go.Proofs.YtiafhcgaikapcaaGreat
