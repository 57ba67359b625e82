import Derived.Test.YtiafhcgaikapcaaGreatRCalls
import Derived.Shelf.SlSortCmp.KitK
import Derived.Sort.LotA
import Derived.Test.YtiafhcgaikapcaaGreatNRep
import Derived.Laws.OwnMore

/-
  A row of records, each with the place where it stood at first: the function that compares two of them by their numbers; exchanges of a stretch of them (slices.swapRangeCmpFunc).
-/
namespace Go.Proofs.YtiafhcgaikapcaaGreat
open Go.ChangeShapes Go.WideShapes Go.ChangeAt Go.RowKit Go.Joins
open Go.Shelf Go.Lib Go.Sort
set_option maxRecDepth 100000
set_option linter.unusedVariables false
set_option linter.unusedSimpArgs false

/-- A record with a tag. -/
def Tg : Type := Rc × Nat
instance : Inhabited Tg := ⟨(⟨0, 0, 0, 0⟩, 0)⟩
def encT (x : Tg) : List Value := (rv x.1).toList
theorem encT_len (x : Tg) : (encT x).length = 4 := rfl
theorem encT_one (x : Tg) : ∀ v ∈ encT x, v.oneCell' = true := fun v hv => by
  simp [encT, rv] at hv
  rcases hv with rfl | rfl | rfl | rfl <;> rfl
def cfT (x y : Tg) : Int := if x.1.q < y.1.q then -1 else if y.1.q < x.1.q then 1 else 0
theorem cfT_neg (x y : Tg) : cfT x y < 0 ↔ x.1.q < y.1.q := by
  unfold cfT
  split
  · simp_all
  · split <;> simp_all
theorem compareR_any (x y : Int) (w : World) : Calls Tryz.prog 197 #[.int .i64 x, .int .i64 y] w fun e w' => e = .returned (.int .i64 (if x < y then -1 else if y < x then 1 else 0)) ∧ w' = w := by
  obtain ⟨v, hv⟩ : ∃ v : Int, v = (if x < y then -1 else if y < x then 1 else 0) := ⟨_, rfl⟩
  rw [← hv]
  by_cases h1 : x < y
  · have HV : Hid (v = -1) := by show _ = _; rw [hv, if_pos h1]
    clear hv
    go_enter Tryz.func197, Tryz.ntmps197
    go_wp2
    go_ret
    exact ⟨by rw [unhide HV]; rfl, rfl⟩
  · by_cases h2 : y < x
    · have HV : Hid (v = 1) := by show _ = _; rw [hv, if_neg h1, if_pos h2]
      clear hv
      go_enter Tryz.func197, Tryz.ntmps197
      go_wp2
      go_ret
      exact ⟨by rw [unhide HV]; rfl, rfl⟩
    · have HV : Hid (v = 0) := by show _ = _; rw [hv, if_neg h1, if_neg h2]
      clear hv
      go_enter Tryz.func197, Tryz.ntmps197
      go_wp2
      go_ret
      exact ⟨by rw [unhide HV]; rfl, rfl⟩
theorem cmpR_any (x y : Tg) (W : World) : Calls Tryz.prog 196 (#[.agg (encT x).toArray, .agg (encT y).toArray] ++ #[]) W fun e w' => e = .returned (.int .i64 (cfT x y)) ∧ ∃ q os', w' = grow (W.drewN q) os' := by
  have C := hide (compareR_any x.1.q y.1.q)
  have hc : cfT x y = (if x.1.q < y.1.q then -1 else if y.1.q < x.1.q then 1 else 0) := rfl
  rw [← hc] at C
  generalize cfT x y = v at *
  clear hc
  show Calls Tryz.prog 196 #[.agg #[.int .i64 x.1.q, .int .i64 x.1.d, .int .i64 x.1.o, .int .u64 x.1.v], .agg #[.int .i64 y.1.q, .int .i64 y.1.d, .int .i64 y.1.o, .int .u64 y.1.v]] W _
  go_enter Tryz.func196, Tryz.ntmps196
  go_wp2_with fail
  refine (unhide C _).mono ?_
  rintro e w1 ⟨rfl, rfl⟩
  go_wp2_with fail
  go_ret
  exact ⟨rfl, 0, _, by rw [alloc_eq_grow, alloc_eq_grow, grow_grow]; rfl⟩
theorem cmpLaysR (blk off size : Nat) (w : World) : CmpLays Tryz.prog 196 #[] encT 4 cfT blk off size w := fun _ _ _ _ x y => cmpR_any x y _
theorem cmpR_enters : ∀ args (w : World), (callFunc 196 args).run Tryz.prog w = .ok (.enter 196 args) w := fun _ _ => by kernel_rfl
/-- The sort's worlds, of a row of tagged records. -/
abbrev SWT (w0 : World) (blk : Nat) (d : Array Tg) (W : World) : Prop := SWK encT 4 w0 blk 0 d W
abbrev RowT (w0 : World) (blk : Nat) (d : Array Tg) : Prop := RowK encT 4 w0 blk 0 d
theorem aggR : ∀ w : World, (isAgg 126).run Tryz.prog w = .ok true w := fun w => by
  unfold isAgg
  rw [Sem.run_bind, run_underlying Tryz.underlying126 w]
  simp
theorem sizeR : ∀ w : World, (Go.sizeOf 126).run Tryz.prog w = .ok 4 w := fun w => by kernel_rfl

/-! ### Exchanges -/
def swpR (d : Array Tg) (a b : Nat) : Nat → Array Tg
  | 0 => d
  | i + 1 => swp (swpR d a b i) (a + i) (b + i)
theorem swpR_size (d : Array Tg) (a b : Nat) : ∀ i, (swpR d a b i).size = d.size
  | 0 => rfl
  | i + 1 => by show (swp _ _ _).size = _; rw [size_swp, swpR_size d a b i]
theorem swapRange_k (k off : Nat) (aE : ∀ w : World, (isAgg 126).run Tryz.prog w = .ok true w) (zE : ∀ w : World, (Go.sizeOf 126).run Tryz.prog w = .ok k w) (enc : Tg → List Value) (w0 w : World) (blk : Nat) (d0 d : Array Tg) (R : RowK enc k w0 blk off d0) (hs : d0.size = d.size) (S : SWK enc k w0 blk off d w) (a b n : Nat) (ha : a + n ≤ d.size) (hb : b + n ≤ d.size) (hsz : d.size ≤ 1000) (cap : Nat) (fv : Value) :
    Calls Tryz.prog 227 #[.slice (some ⟨blk, off, none⟩) d.size cap, .int .i64 a, .int .i64 b, .int .i64 n, fv] w fun e w' => e = .returned (.tuple #[]) ∧ SWK enc k w0 blk off (swpR d a b n) w' := by
  have mixed : Tryz.prog.follows .mixedOrders = true := by kernel_rfl
  have S0 : Aside (SWK enc k w0 blk off d w) := S
  clear S
  go_enter Tryz.func227, Tryz.ntmps227
  go_wp2_with fail
  go_loopw [10] (fun c wr => ∃ i : Nat, i ≤ n ∧ c = .int .i64 i ∧ Aside (SWK enc k w0 blk off (swpR d a b i) wr)) (fun c _ => n - (intOf c).toNat)
  case atStart => exact ⟨0, by omega, rfl, S0⟩
  case round =>
    clear S0
    obtain ⟨i, hi, rfl, S1⟩ := hrel
    by_cases hlt : i < n
    · have hltz : (i : Int) < (n : Int) := by omega
      have hds := swpR_size d a b i
      obtain ⟨dk, hdk⟩ : ∃ dk, dk = swpR d a b i := ⟨_, rfl⟩
      have HN : Hid (swp dk (a + i) (b + i) = swpR d a b (i + 1)) := by show _ = _; rw [hdk]; rfl
      rw [← hdk] at S1 hds
      clear hdk
      go_wp2_with fail
      have ea1 : ((a : Int) + (i : Int)).toNat = a + i := by omega
      have pa1 : (0 : Int) ≤ (a : Int) + (i : Int) := by omega
      have ba1 : (a : Int) + (i : Int) < (d.size : Int) := by omega
      have ra1 : IntKind.i64.wrap ((a : Int) + (i : Int)) = (a : Int) + (i : Int) := by rw [IntKind.wrap_i64]; omega
      have ea2 : ((b : Int) + (i : Int)).toNat = b + i := by omega
      have pa2 : (0 : Int) ≤ (b : Int) + (i : Int) := by omega
      have ba2 : (b : Int) + (i : Int) < (d.size : Int) := by omega
      have ra2 : IntKind.i64.wrap ((b : Int) + (i : Int)) = (b : Int) + (i : Int) := by rw [IntKind.wrap_i64]; omega
      have S2 : Aside (SWK enc k w0 blk off (swp dk (a + i) (b + i)) ((wr.drew.setCells blk (off + (a + i) * k) (enc dk[b + i]!)).setCells blk (off + (b + i) * k) (enc dk[a + i]!))) := S1.out.swapped R (a + i) (b + i) (by omega) (by omega)
      have l1 := S1.out.ld1 R (by omega) Tryz.prog (a + i) (by omega)
      have l2 := S1.out.ld1 R (by omega) Tryz.prog (b + i) (by omega)
      have s1 := S1.out.st1 R (by omega) Tryz.prog (a + i) (by omega) dk[b + i]!
      have s2 := S1.out.st2 R (by omega) Tryz.prog (a + i) (b + i) (by omega) (by omega) dk[b + i]! dk[a + i]!
      have n1 : (enc dk[a + i]!).length = k := R.hk _
      have n2 : (enc dk[b + i]!).length = k := R.hk _
      generalize enc dk[a + i]! = c1 at S2 l1 s2 n1
      generalize enc dk[b + i]! = c2 at S2 l2 s1 s2 n2
      clear S1
      go_big_region_o
      clear l1 l2 s1 s2
      generalize (wr.drew.setCells blk (off + (a + i) * k) c2).setCells blk (off + (b + i) * k) c1 = w2 at S2 ⊢
      rw [unhide HN] at S2
      go_wp2_with fail
      go_roundw
      case rel => exact ⟨i + 1, by omega, by go_num, S2⟩
      case measure => simp [intOf]; omega
    · obtain rfl : i = n := by omega
      go_wp2_with fail
      go_end0
      exact ⟨rfl, S1.out⟩

end Go.Proofs.YtiafhcgaikapcaaGreat


/-
  slices.insertionSortCmpFunc and rotateCmpFunc at rows of tagged records.
-/
namespace Go.Proofs.YtiafhcgaikapcaaGreat
open Go.ChangeShapes Go.WideShapes Go.ChangeAt Go.RowKit Go.Joins
open Go.Shelf Go.Lib Go.Sort
set_option maxRecDepth 100000
set_option linter.unusedVariables false
set_option linter.unusedSimpArgs false

def ltT (x y : Tg) : Bool := decide (x.1.q < y.1.q)
theorem ltT_pos {x y : Tg} (h : cfT x y < 0) : ltT x y = true := decide_eq_true ((cfT_neg x y).1 h)
theorem ltT_neg {x y : Tg} (h : ¬ cfT x y < 0) : ltT x y = false := decide_eq_false (fun h' => h ((cfT_neg x y).2 h'))

/-- What stands still while a row is sorted: the row's first world, its types, the function that compares. -/
structure Srt (k off : Nat) (enc : Tg → List Value) (w0 : World) (blk : Nat) (d0 : Array Tg) (g : Nat) : Prop where
  aE : ∀ w : World, (isAgg 126).run Tryz.prog w = .ok true w
  zE : ∀ w : World, (Go.sizeOf 126).run Tryz.prog w = .ok k w
  R : RowK enc k w0 blk off d0
  sz : d0.size ≤ 1000
  eg : ∀ args (w : World), (callFunc g args).run Tryz.prog w = .ok (.enter g args) w
  C : CmpLays Tryz.prog g #[] enc k cfT blk off d0.size w0

set_option maxHeartbeats 4000000 in
theorem insSort_k {k off : Nat} {enc : Tg → List Value} {w0 : World} {blk : Nat} {d0 : Array Tg} {g : Nat} (Z : Srt k off enc w0 blk d0 g) (w : World) (d : Array Tg) (hs : d.size = d0.size) (S : SWK enc k w0 blk off d w) (a b : Nat) (hab : a ≤ b) (hb : b ≤ d.size) (cap : Nat) :
    Calls Tryz.prog 219 #[.slice (some ⟨blk, off, none⟩) d.size cap, .int .i64 a, .int .i64 b, .func (.func g) #[] #[]] w fun e w' => e = .returned (.tuple #[]) ∧ SWK enc k w0 blk off (Sort.insertionSort ltT d a b) w' := by
  have mixed : Tryz.prog.follows .mixedOrders = true := by kernel_rfl
  have S0 : Aside (SWK enc k w0 blk off d w) := S
  have HZ : Aside (Srt k off enc w0 blk d0 g) := Z
  have aE := Z.aE
  have zE := Z.zE
  have eg := Z.eg
  have hsz : d.size ≤ 1000 := by have := Z.sz; omega
  have HS := hide hs
  clear S Z hs
  go_enter Tryz.func219, Tryz.ntmps219
  go_wp2_with fail
  go_loopw [8] (fun c wr => ∃ (i : Nat) (dk : Array Tg), c = .int .i64 i ∧ a < i ∧ i ≤ b + 1 ∧ dk.size = d.size ∧ Aside (SWK enc k w0 blk off dk wr) ∧ Hid (insOuter ltT a b i dk = insOuter ltT a b (a + 1) d)) (fun c _ => b + 1 - (intOf c).toNat)
  case atStart => exact ⟨a + 1, d, by go_num, by omega, by omega, rfl, S0, rfl⟩
  case round =>
    clear S0
    obtain ⟨i, dk, rfl, hai, hib, hsk, S1, HO⟩ := hrel
    by_cases hlt : i < b
    · have hltz : (i : Int) < (b : Int) := by omega
      go_wp2_with fail
      go_loopw [9] (fun c wr => ∃ (j : Nat) (dj : Array Tg), c = .int .i64 j ∧ a ≤ j ∧ j ≤ i ∧ dj.size = d.size ∧ Aside (SWK enc k w0 blk off dj wr) ∧ Hid (insInner ltT a j dj = insInner ltT a i dk)) (fun c _ => (intOf c).toNat)
      case atStart => exact ⟨i, dk, rfl, by omega, Nat.le_refl _, hsk, S1, rfl⟩
      case round =>
        clear S1
        obtain ⟨j, dj, rfl, haj, hji, hsj, S2, HI⟩ := hrel
        have OUT : Hid ((j ≤ a ∨ ltT dj[j]! dj[j - 1]! = false) → insOuter ltT a b (i + 1) dj = insOuter ltT a b (a + 1) d) := fun h => by
          rw [← HO.out, insOuter_go _ _ _ _ _ hlt, ← HI.out, insInner_stop _ _ _ _ h]
        clear HO
        by_cases hja : a < j
        · obtain ⟨jp, rfl⟩ : ∃ jp, j = jp + 1 := ⟨j - 1, by omega⟩
          have hwp : IntKind.i64.wrap (jp : Int) = (jp : Int) := by rw [IntKind.wrap_i64]; omega
          have jz : (jp : Int) + 1 < (d.size : Int) := by omega
          have jz1 : (jp : Int) < (d.size : Int) := by omega
          have hjaz' : (a : Int) < (jp : Int) + 1 := by omega
          have p0 : (0 : Int) ≤ (jp : Int) + 1 := by omega
          have e0 : ((jp : Int) + 1).toNat = jp + 1 := by omega
          have lj := S2.out.ld HZ.out.R (by have := unhide HS; omega) Tryz.prog (jp + 1) (by omega)
          have lp := S2.out.ld HZ.out.R (by have := unhide HS; omega) Tryz.prog jp (by omega)
          have hcg := S2.out.cmp HZ.out.C (by have := unhide HS; omega) dj[jp + 1]! dj[jp]!
          have SG : Aside (∀ n os, SWK enc k w0 blk off dj (grow (wr.drewN n) os)) := fun n os => S2.out.grown n os
          clear S2
          obtain ⟨xj, hxj⟩ : ∃ x, dj[jp + 1]! = x := ⟨_, rfl⟩
          obtain ⟨xp, hxp⟩ : ∃ x, dj[jp]! = x := ⟨_, rfl⟩
          rw [hxj] at lj hcg
          rw [hxp] at lp hcg
          have HXJ := hide hxj
          have HXP := hide hxp
          clear hxj hxp
          by_cases hlv : cfT xj xp < 0
          · have HLT := hide (ltT_pos hlv)
            go_wp2_with fail
            go_quiet_grown (first | (go_at_fn g; refine Calls.grown_of (hcg _ _)))
            go_wp2_with fail
            have S3 := SG.out nq osq
            clear lj lp hcg SG OUT
            generalize grow (wr.drewN nq) osq = w3 at S3 ⊢
            have S4 : Aside (SWK enc k w0 blk off (swp dj (jp + 1) jp) ((w3.drew.setCells blk (off + (jp + 1) * k) (enc xp)).setCells blk (off + jp * k) (enc xj))) := by
              have := S3.swapped HZ.out.R (jp + 1) jp (by omega) (by omega)
              rw [unhide HXJ, unhide HXP] at this; exact this
            have l1 := S3.ld1 HZ.out.R (by have := unhide HS; omega) Tryz.prog (jp + 1) (by omega)
            have l2 := S3.ld1 HZ.out.R (by have := unhide HS; omega) Tryz.prog jp (by omega)
            rw [unhide HXJ] at l1
            rw [unhide HXP] at l2
            have s1 := S3.st1 HZ.out.R (by have := unhide HS; omega) Tryz.prog (jp + 1) (by omega) xp
            have s2 := S3.st2 HZ.out.R (by have := unhide HS; omega) Tryz.prog (jp + 1) jp (by omega) (by omega) xp xj
            have n1 : (enc xj).length = k := HZ.out.R.hk _
            have n2 : (enc xp).length = k := HZ.out.R.hk _
            generalize enc xj = c1 at S4 l1 s2 n1
            generalize enc xp = c2 at S4 l2 s1 s2 n2
            clear S3
            go_big_region_o
            clear l1 l2 s1 s2
            generalize (w3.drew.setCells blk (off + (jp + 1) * k) c2).setCells blk (off + jp * k) c1 = w4 at S4 ⊢
            go_wp2_with fail
            go_roundw
            case rel =>
              refine ⟨jp, swp dj (jp + 1) jp, by first | rfl | go_num, by omega, by omega, by rw [size_swp]; exact hsj, S4, ?_⟩
              show _ = _
              have := insInner_go ltT a (jp + 1) dj hja (by simp only [Nat.add_sub_cancel]; rw [unhide HXJ, unhide HXP]; exact unhide HLT)
              simp only [Nat.add_sub_cancel] at this
              rw [← HI.out, this]
            case measure => simp [intOf]
          · have HLT := hide (ltT_neg hlv)
            go_wp2_with fail
            go_quiet_grown (first | (go_at_fn g; refine Calls.grown_of (hcg _ _)))
            go_wp2_with fail
            go_roundw
            case rel => exact ⟨i + 1, dj, by go_num, by omega, by omega, hsj, SG.out nq osq, unhide OUT (Or.inr (by simp only [Nat.add_sub_cancel]; rw [unhide HXJ, unhide HXP]; exact unhide HLT))⟩
            case measure => simp [intOf]; omega
        · have hjaz : ¬ (a : Int) < (j : Int) := by omega
          have S3 : Aside (SWK enc k w0 blk off dj wr.drew) := S2.out.drew
          clear S2
          go_wp2_with fail
          go_big_region_o
          all_goals go_wp2_with fail
          go_roundw
          case rel => exact ⟨i + 1, dj, by go_num, by omega, by omega, hsj, S3, unhide OUT (Or.inl (by omega))⟩
          case measure => simp [intOf]; omega
    · have hltz : ¬ (i : Int) < (b : Int) := by omega
      go_wp2_with fail
      go_end0
      refine ⟨rfl, ?_⟩
      have : Sort.insertionSort ltT d a b = dk := by unfold Sort.insertionSort; rw [← HO.out, insOuter_stop _ _ _ _ _ hlt]
      rw [this]
      exact S1.out

end Go.Proofs.YtiafhcgaikapcaaGreat


/-
  The stable sort in plain mathematics: rows of tagged records, ordered by number and then by tag; rotations; where two sorted stretches are cut. No program.
-/
namespace Go.Proofs.YtiafhcgaikapcaaGreat
open Go.Sort
set_option maxRecDepth 10000
set_option linter.unusedVariables false

/-- By number, then by tag, then by the rest: a total order. -/
def lxB (x y : Tg) : Bool := decide (x.1.q < y.1.q ∨ (x.1.q = y.1.q ∧ (x.2 < y.2 ∨ (x.2 = y.2 ∧ (x.1.d < y.1.d ∨ (x.1.d = y.1.d ∧ (x.1.o < y.1.o ∨ (x.1.o = y.1.o ∧ x.1.v < y.1.v))))))))
theorem lxB_iff (x y : Tg) : lxB x y = true ↔ (x.1.q < y.1.q ∨ (x.1.q = y.1.q ∧ (x.2 < y.2 ∨ (x.2 = y.2 ∧ (x.1.d < y.1.d ∨ (x.1.d = y.1.d ∧ (x.1.o < y.1.o ∨ (x.1.o = y.1.o ∧ x.1.v < y.1.v)))))))) := decide_eq_true_iff
theorem lxB_niff (x y : Tg) : lxB x y = false ↔ ¬ (x.1.q < y.1.q ∨ (x.1.q = y.1.q ∧ (x.2 < y.2 ∨ (x.2 = y.2 ∧ (x.1.d < y.1.d ∨ (x.1.d = y.1.d ∧ (x.1.o < y.1.o ∨ (x.1.o = y.1.o ∧ x.1.v < y.1.v)))))))) := decide_eq_false_iff_not
theorem swoT : SWO lxB where
  irrefl x := by rw [lxB_niff]; omega
  trans x y z h1 h2 := by rw [lxB_iff] at *; omega
  ntrans x y z h1 h2 := by rw [lxB_niff] at *; omega
theorem lxB_eq (x y : Tg) (h1 : lxB x y = false) (h2 : lxB y x = false) : x = y := by
  rw [lxB_niff] at *
  obtain ⟨⟨a, b, c, d⟩, e⟩ := x
  obtain ⟨⟨a', b', c', d'⟩, e'⟩ := y
  simp only at h1 h2
  have h3 : a = a' := by omega
  have h4 : e = e' := by omega
  have h5 : b = b' := by omega
  have h6 : c = c' := by omega
  have h7 : d = d' := by omega
  subst h3 h4 h5 h6 h7
  rfl
theorem ltT_lx {x y : Tg} (h : y.2 < x.2) : ltT x y = lxB x y := by
  cases hq : lxB x y
  · rw [lxB_niff] at hq
    exact decide_eq_false (by omega)
  · rw [lxB_iff] at hq
    exact decide_eq_true (by omega)
abbrev SI (a b : Nat) (d : Array Tg) : Prop := SortedIn lxB a b d

/-! ### The insertion sort, where the tags rise -/
theorem inner_eq (a : Nat) : ∀ (j : Nat) (d : Array Tg), j < d.size → (∀ k, a ≤ k → k < j → (d[k]!).2 < (d[j]!).2) → insInner ltT a j d = insInner lxB a j d
  | 0, d, _, _ => rfl
  | j + 1, d, hs, h => by
    unfold insInner
    by_cases ha : a ≤ j
    · rw [ltT_lx (h j ha (Nat.lt_succ_self j))]
      split
      · refine inner_eq a j _ (by rw [swp_size]; omega) (fun k h1 h2 => ?_)
        rw [swp_get d (by omega) (by omega), swp_get d (by omega) (by omega)]
        have := h k h1 (by omega)
        simpa [show k ≠ j by omega, show k ≠ j + 1 by omega, show j ≠ j + 1 by omega] using this
      · rfl
    · have e : (decide (j + 1 > a)) = false := decide_eq_false (by omega)
      rw [e]
      rfl
theorem inner_spec (a i : Nat) : ∀ (j : Nat) (d : Array Tg), a ≤ i → j ≤ i → i < d.size → PermIn a (i + 1) d (insInner lxB a j d)
  | 0, d, _, _, _ => permIn_refl _ _ _
  | j + 1, d, h0, h1, h2 => by
    unfold insInner
    split
    · rename_i hc
      have ha : a < j + 1 := by simp at hc; omega
      exact permIn_trans _ _ _ _ _ (swp_permIn d a (i + 1) (j + 1) j (by omega) (by omega) (by omega) (by omega) (by omega)) (inner_spec a i j _ h0 (by omega) (by rw [swp_size]; exact h2))
    · exact permIn_refl _ _ _
theorem outer_eq (a b : Nat) : ∀ (n i : Nat) (d : Array Tg), b - i = n → a < i → b ≤ d.size → (∀ k m, a ≤ k → k < i → i ≤ m → m < b → (d[k]!).2 < (d[m]!).2) → (∀ k m, i ≤ k → k < m → m < b → (d[k]!).2 < (d[m]!).2) → insOuter ltT a b i d = insOuter lxB a b i d
  | 0, i, d, hn, ha, hb, h1, h2 => by
    rw [insOuter_stop _ _ _ _ _ (by omega), insOuter_stop _ _ _ _ _ (by omega)]
  | n + 1, i, d, hn, ha, hb, h1, h2 => by
    have hi : i < b := by omega
    rw [insOuter_go _ _ _ _ _ hi, insOuter_go _ _ _ _ _ hi, inner_eq a i d (by omega) (fun k hk1 hk2 => h1 k i hk1 hk2 (Nat.le_refl _) hi)]
    have hp := inner_spec a i i d (by omega) (Nat.le_refl _) (by omega)
    have hall : ∀ m, i + 1 ≤ m → m < b → ∀ k, a ≤ k → k < i + 1 → ((insInner lxB a i d)[k]!).2 < (d[m]!).2 := fun m hm1 hm2 => permIn_all d _ a (i + 1) (fun x => x.2 < (d[m]!).2) (by omega) hp (fun k hk1 hk2 => by
      by_cases hki : k = i
      · subst hki; exact h2 k m (Nat.le_refl _) (by omega) hm2
      · exact h1 k m hk1 (by omega) (by omega) hm2)
    refine outer_eq a b n (i + 1) _ (by omega) (by omega) (by rw [hp.1]; exact hb) (fun k m hk1 hk2 hm1 hm2 => ?_) (fun k m hk1 hk2 hm2 => ?_)
    · rw [hp.2.1 m (Or.inr hm1)]
      exact hall m hm1 hm2 k hk1 hk2
    · rw [hp.2.1 m (Or.inr (by omega)), hp.2.1 k (Or.inr (by omega))]
      exact h2 k m (by omega) hk2 hm2
/-- Tags that rise. -/
def Rise (a b : Nat) (d : Array Tg) : Prop := ∀ k m, a ≤ k → k < m → m < b → (d[k]!).2 < (d[m]!).2
theorem insT (d : Array Tg) (a b : Nat) (hab : a ≤ b) (hb : b ≤ d.size) (h : Rise a b d) : PermIn a b d (Sort.insertionSort ltT d a b) ∧ SI a b (Sort.insertionSort ltT d a b) := by
  have e : Sort.insertionSort ltT d a b = Sort.insertionSort lxB d a b := by
    unfold Sort.insertionSort
    exact outer_eq a b _ (a + 1) d rfl (by omega) hb (fun k m h1 h2 h3 h4 => h k m h1 (by omega) h4) (fun k m h1 h2 h3 => h k m (by omega) h2 h3)
  rw [e]
  exact insertionSort_holds swoT d a b hab hb

/-! ### Exchanged stretches, rotations -/
theorem swpR_get (d : Array Tg) (a b : Nat) : ∀ n, a + n ≤ b → b + n ≤ d.size → ∀ t, (swpR d a b n)[t]! = if a ≤ t ∧ t < a + n then d[b + (t - a)]! else if b ≤ t ∧ t < b + n then d[a + (t - b)]! else d[t]!
  | 0, h1, h2, t => by
    rw [if_neg (by omega), if_neg (by omega)]; rfl
  | n + 1, h1, h2, t => by
    have ih := swpR_get d a b n (by omega) (by omega)
    show (swp (swpR d a b n) (a + n) (b + n))[t]! = _
    rw [swp_get _ (by rw [swpR_size]; omega) (by rw [swpR_size]; omega), ih, ih, ih]
    by_cases e1 : t = a + n
    · subst e1
      simp only [show ¬ (a + n = b + n) by omega, if_false, if_true]
      rw [if_neg (by omega), if_neg (by omega), if_pos (by omega)]
      congr 1; omega
    · by_cases e2 : t = b + n
      · subst e2
        simp only [show ¬ (b + n = a + n) by omega, if_false, if_true]
        rw [if_neg (by omega), if_neg (by omega), if_neg (by omega), if_pos (by omega)]
        congr 1; omega
      · simp only [e1, e2, if_false]
        by_cases c1 : a ≤ t ∧ t < a + n
        · rw [if_pos c1, if_pos (by omega)]
        · rw [if_neg c1, if_neg (show ¬ (a ≤ t ∧ t < a + (n + 1)) by omega)]
          by_cases c2 : b ≤ t ∧ t < b + n
          · rw [if_pos c2, if_pos (by omega)]
          · rw [if_neg c2, if_neg (show ¬ (b ≤ t ∧ t < b + (n + 1)) by omega)]
theorem swpR_perm (d : Array Tg) (a b x y : Nat) : ∀ n, x ≤ a → x ≤ b → a + n ≤ y → b + n ≤ y → y ≤ d.size → PermIn x y d (swpR d a b n)
  | 0, _, _, _, _, _ => permIn_refl _ _ _
  | n + 1, h1, h2, h3, h4, h5 => permIn_trans _ _ _ _ _ (swpR_perm d a b x y n h1 h2 (by omega) (by omega) h5) (swp_permIn _ x y (a + n) (b + n) (by omega) (by omega) (by omega) (by omega) (by rw [swpR_size]; exact h5))
/-- The stretches from a to m and from m to b, in the other order. -/
def rotF (f : Nat → Tg) (a m b t : Nat) : Tg := if a ≤ t ∧ t < a + (b - m) then f (m + (t - a)) else if a + (b - m) ≤ t ∧ t < b then f (a + (t - (a + (b - m)))) else f t
def gt (d : Array Tg) (t : Nat) : Tg := d[t]!
theorem rot_left (d : Array Tg) (m i j : Nat) (hi : i ≤ m) (hj : j < i) (hb : m + j ≤ d.size) (t : Nat) :
    rotF (gt (swpR d (m - i) m j)) (m - (i - j)) m (m + j) t = rotF (gt d) (m - i) m (m + j) t := by
  unfold rotF gt
  rw [swpR_get d (m - i) m j (by omega) (by omega), swpR_get d (m - i) m j (by omega) (by omega), swpR_get d (m - i) m j (by omega) (by omega)]
  repeat' split
  all_goals first
    | (exfalso; omega)
    | (congr 1; done)
    | (congr 1; omega)
theorem rot_right (d : Array Tg) (m i j : Nat) (hi : i ≤ m) (hj : i < j) (hb : m + j ≤ d.size) (t : Nat) :
    rotF (gt (swpR d (m - i) (m + j - i) i)) (m - i) m (m + (j - i)) t = rotF (gt d) (m - i) m (m + j) t := by
  unfold rotF gt
  rw [swpR_get d (m - i) (m + j - i) i (by omega) (by omega), swpR_get d (m - i) (m + j - i) i (by omega) (by omega), swpR_get d (m - i) (m + j - i) i (by omega) (by omega)]
  repeat' split
  all_goals first
    | (exfalso; omega)
    | (congr 1; done)
    | (congr 1; omega)
theorem rot_same (d : Array Tg) (m i : Nat) (hi : i ≤ m) (hb : m + i ≤ d.size) (t : Nat) : (swpR d (m - i) m i)[t]! = rotF (gt d) (m - i) m (m + i) t := by
  unfold rotF gt
  rw [swpR_get d (m - i) m i (by omega) (by omega)]
  repeat' split
  all_goals first
    | (exfalso; omega)
    | (congr 1; done)
    | (congr 1; omega)

/-! ### Two sorted stretches, cut and turned -/
theorem SI.le {a b : Nat} {d : Array Tg} (h : SI a b d) {i j : Nat} (h1 : a ≤ i) (h2 : i ≤ j) (h3 : j < b) : lxB d[j]! d[i]! = false := by
  by_cases e : i = j
  · subst e; exact swoT.irrefl _
  · exact h i j h1 (by omega) h3
theorem lx_le {x y z : Tg} (h1 : lxB x y = true) (h2 : lxB z y = false) : lxB x z = true := by
  cases h : lxB x z
  · exact absurd (swoT.ntrans _ _ _ h h2) (by rw [h1]; simp)
  · rfl
theorem lx_le' {x y z : Tg} (h1 : lxB x y = true) (h2 : lxB x z = false) : lxB z y = true := by
  cases h : lxB z y
  · exact absurd (swoT.ntrans _ _ _ h2 h) (by rw [h1]; simp)
  · rfl
theorem lx_not {x y : Tg} (h : lxB x y = true) : lxB y x = false := by
  cases h' : lxB y x
  · rfl
  · have := swoT.trans _ _ _ h h'
    rw [swoT.irrefl] at this; simp at this
/-- Behind a rotation of s, m, e: what stands below s + (e - m) is not above what stands from there on. -/
theorem cut_le {a s m e b : Nat} {d d' : Array Tg} (h1 : a ≤ s) (h2 : s ≤ m) (h3 : m ≤ e) (h4 : e ≤ b) (hl : SI a m d) (hr : SI m b d) (hd : ∀ t, d'[t]! = rotF (gt d) s m e t)
    (hlo : ∀ x y, a ≤ x → x < s → e ≤ y → y < b → lxB d[y]! d[x]! = false) (hhi : ∀ x y, s ≤ x → x < m → m ≤ y → y < e → lxB d[y]! d[x]! = true) :
    ∀ x y, a ≤ x → x < s + (e - m) → s + (e - m) ≤ y → y < b → lxB d'[y]! d'[x]! = false := fun x y hx1 hx2 hy1 hy2 => by
  rw [hd, hd]
  unfold rotF gt
  by_cases c1 : x < s
  · rw [if_neg (show ¬ (s ≤ x ∧ x < s + (e - m)) by omega), if_neg (show ¬ (s + (e - m) ≤ x ∧ x < e) by omega), if_neg (show ¬ (s ≤ y ∧ y < s + (e - m)) by omega)]
    split
    · exact hl.le hx1 (by omega) (by omega)
    · exact hlo x y hx1 c1 (by omega) hy2
  · rw [if_pos (show s ≤ x ∧ x < s + (e - m) by omega), if_neg (show ¬ (s ≤ y ∧ y < s + (e - m)) by omega)]
    split
    · exact lx_not (hhi _ _ (by omega) (by omega) (by omega) (by omega))
    · exact hr.le (by omega) (by omega) hy2
theorem sorted_join {a c b : Nat} {d : Array Tg} (h1 : SI a c d) (h2 : SI c b d) (h : ∀ x y, a ≤ x → x < c → c ≤ y → y < b → lxB d[y]! d[x]! = false) : SI a b d := fun i j hi hij hj => by
  by_cases c1 : j < c
  · exact h1 i j hi hij c1
  · by_cases c2 : i < c
    · exact h i j hi c2 (by omega) hj
    · exact h2 i j (by omega) hij hj
/-- What of the left stretch stands below s is as it was; what of the right one came behind it. -/
theorem rot_a {a s m e b : Nat} {d d' : Array Tg} (h1 : a ≤ s) (h2 : s ≤ m) (h3 : m ≤ e) (h4 : e ≤ b) (hl : SI a m d) (hd : ∀ t, d'[t]! = rotF (gt d) s m e t) : SI a s d' := fun i j hi hij hj => by
  rw [hd, hd]
  unfold rotF gt
  rw [if_neg (by omega), if_neg (by omega), if_neg (by omega), if_neg (by omega)]
  exact hl.le hi (by omega) (by omega)
theorem rot_b {s m e b : Nat} {d d' : Array Tg} (h2 : s ≤ m) (h3 : m ≤ e) (h4 : e ≤ b) (hr : SI m b d) (hd : ∀ t, d'[t]! = rotF (gt d) s m e t) : SI s (s + (e - m)) d' := fun i j hi hij hj => by
  rw [hd, hd]
  unfold rotF gt
  rw [if_pos (by omega), if_pos (by omega)]
  exact hr.le (by omega) (by omega) (by omega)
theorem rot_c {a s m e : Nat} {d d' : Array Tg} (h1 : a ≤ s) (h2 : s ≤ m) (h3 : m ≤ e) (hl : SI a m d) (hd : ∀ t, d'[t]! = rotF (gt d) s m e t) : SI (s + (e - m)) e d' := fun i j hi hij hj => by
  rw [hd, hd]
  unfold rotF gt
  rw [if_neg (by omega), if_pos (by omega), if_neg (by omega), if_pos (by omega)]
  exact hl.le (by omega) (by omega) (by omega)
theorem rot_d {s m e b : Nat} {d d' : Array Tg} (h2 : s ≤ m) (h3 : m ≤ e) (h4 : e ≤ b) (hr : SI m b d) (hd : ∀ t, d'[t]! = rotF (gt d) s m e t) : SI e b d' := fun i j hi hij hj => by
  rw [hd, hd]
  unfold rotF gt
  rw [if_neg (by omega), if_neg (by omega), if_neg (by omega), if_neg (by omega)]
  exact hr.le (by omega) (by omega) (by omega)
/-- All of the left have smaller tags than all of the right. -/
def Cross (a m b : Nat) (d : Array Tg) : Prop := ∀ x y, a ≤ x → x < m → m ≤ y → y < b → (d[x]!).2 < (d[y]!).2
theorem cross_ab {a s m e b : Nat} {d d' : Array Tg} (h1 : a ≤ s) (h2 : s ≤ m) (h3 : m ≤ e) (h4 : e ≤ b) (hc : Cross a m b d) (hd : ∀ t, d'[t]! = rotF (gt d) s m e t) : Cross a s (s + (e - m)) d' := fun x y hx1 hx2 hy1 hy2 => by
  rw [hd, hd]
  unfold rotF gt
  rw [if_neg (by omega), if_neg (by omega), if_pos (by omega)]
  exact hc _ _ hx1 (by omega) (by omega) (by omega)
theorem cross_cd {a s m e b : Nat} {d d' : Array Tg} (h1 : a ≤ s) (h2 : s ≤ m) (h3 : m ≤ e) (h4 : e ≤ b) (hc : Cross a m b d) (hd : ∀ t, d'[t]! = rotF (gt d) s m e t) : Cross (s + (e - m)) e b d' := fun x y hx1 hx2 hy1 hy2 => by
  rw [hd, hd]
  unfold rotF gt
  rw [if_neg (by omega), if_pos (by omega), if_neg (by omega), if_neg (by omega)]
  exact hc _ _ (by omega) (by omega) (by omega) (by omega)
theorem rot_none {s m e : Nat} (d : Array Tg) (h2 : s ≤ m) (h3 : m ≤ e) (h : s = m ∨ m = e) (t : Nat) : d[t]! = rotF (gt d) s m e t := by
  unfold rotF gt
  repeat' split
  all_goals first
    | rfl
    | (congr 1; omega)
/-- The search of the cut: once true, true further below. -/
theorem cut_mono {a m b p c c' : Nat} {d : Array Tg} (hl : SI a m d) (hr : SI m b d) (h1 : a ≤ c) (h2 : c ≤ c') (h3 : c' < m) (h4 : m ≤ p - c') (h5 : c' ≤ p) (h6 : p - c < b) (h : lxB d[p - c']! d[c']! = false) : lxB d[p - c]! d[c]! = false :=
  swoT.ntrans _ _ _ (swoT.ntrans _ _ _ (hr.le h4 (by omega) h6) h) (hl.le h1 h2 h3)
/-- Two halves, each sorted by itself, of which none of the upper is below one of the lower. -/
theorem join_perm {a c b : Nat} {d1 d2 d3 : Array Tg} (hac : a ≤ c) (hcb : c ≤ b) (hb : b ≤ d1.size) (hcut : ∀ x y, a ≤ x → x < c → c ≤ y → y < b → lxB d1[y]! d1[x]! = false)
    (hp1 : PermIn a c d1 d2) (hs1 : SI a c d2) (hp2 : PermIn c b d2 d3) (hs2 : SI c b d3) : PermIn a b d1 d3 ∧ SI a b d3 := by
  have z2 : d2.size = d1.size := hp1.1
  refine ⟨permIn_trans _ _ _ _ _ (permIn_mono _ _ a c a b (Nat.le_refl _) hcb hb hp1) (permIn_mono _ _ c b a b hac (Nat.le_refl _) (by omega) hp2), ?_⟩
  have s1 : SI a c d3 := fun i j hi hij hj => by
    rw [hp2.2.1 i (Or.inl (by omega)), hp2.2.1 j (Or.inl hj)]
    exact hs1 i j hi hij hj
  refine sorted_join s1 hs2 (fun x y hx1 hx2 hy1 hy2 => ?_)
  rw [hp2.2.1 x (Or.inl hx2)]
  refine permIn_all d2 d3 c b (fun v => lxB v d2[x]! = false) (by omega) hp2 (fun y hy1 hy2 => ?_) y hy1 hy2
  rw [hp1.2.1 y (Or.inr hy1)]
  exact permIn_all d1 d2 a c (fun v => lxB d1[y]! v = false) (by omega) hp1 (fun x hx1 hx2 => hcut x y hx1 hx2 hy1 hy2) x hx1 hx2

/-! ### One record beside a sorted stretch -/
theorem rot_up {d dk : Array Tg} {a x : Nat} (ha : a ≤ x) (hx : x + 1 < dk.size) (h : ∀ t, dk[t]! = rotF (gt d) a (a + 1) (x + 1) t) (t : Nat) : (swp dk x (x + 1))[t]! = rotF (gt d) a (a + 1) (x + 1 + 1) t := by
  rw [swp_get dk (by omega) hx, h, h, h]
  unfold rotF gt
  repeat' split
  all_goals first
    | (exfalso; omega)
    | (congr 1; done)
    | (congr 1; omega)
theorem rot_down {d dk : Array Tg} {m x : Nat} (hm : x + 1 ≤ m) (hx : m < dk.size) (h : ∀ t, dk[t]! = rotF (gt d) (x + 1) m (m + 1) t) (t : Nat) : (swp dk (x + 1) x)[t]! = rotF (gt d) x m (m + 1) t := by
  rw [swp_get dk (by omega) (by omega), h, h, h]
  unfold rotF gt
  repeat' split
  all_goals first
    | (exfalso; omega)
    | (congr 1; done)
    | (congr 1; omega)
theorem one_sorted (x : Nat) (d : Array Tg) : SI x (x + 1) d := fun i j h1 h2 h3 => by omega
theorem one_done {d d' : Array Tg} {a i b : Nat} (h1 : a + 1 ≤ i) (h2 : i ≤ b) (hr : SI (a + 1) b d) (hL : ∀ t, a + 1 ≤ t → t < i → lxB d[t]! d[a]! = true) (hH : ∀ t, i ≤ t → t < b → lxB d[t]! d[a]! = false)
    (hd : ∀ t, d'[t]! = rotF (gt d) a (a + 1) i t) : SI a b d' := by
  have e1 : a + (i - (a + 1)) = i - 1 := by omega
  have c := cut_le (d := d) (d' := d') (a := a) (s := a) (m := a + 1) (e := i) (b := b) (Nat.le_refl _) (by omega) h1 h2 (one_sorted a d) hr hd (fun x y h1 h2 => by omega) (fun x y hx1 hx2 hy1 hy2 => by
    obtain rfl : x = a := by omega
    exact hL y hy1 hy2)
  have lo := rot_b (d := d) (d' := d') (s := a) (m := a + 1) (e := i) (b := b) (by omega) h1 h2 hr hd
  have hi := rot_d (d := d) (d' := d') (s := a) (m := a + 1) (e := i) (b := b) (by omega) h1 h2 hr hd
  rw [e1] at c lo
  refine sorted_join lo (sorted_join (c := i) ?_ hi ?_) c
  · have := one_sorted (i - 1) d'
    rwa [show i - 1 + 1 = i by omega] at this
  · intro x y hx1 hx2 hy1 hy2
    obtain rfl : x = i - 1 := by omega
    rw [hd, hd]
    unfold rotF gt
    rw [if_neg (show ¬ (a ≤ i - 1 ∧ i - 1 < a + (i - (a + 1))) by omega), if_pos (show a + (i - (a + 1)) ≤ i - 1 ∧ i - 1 < i by omega), if_neg (show ¬ (a ≤ y ∧ y < a + (i - (a + 1))) by omega), if_neg (show ¬ (a + (i - (a + 1)) ≤ y ∧ y < i) by omega)]
    rw [show a + (i - 1 - (a + (i - (a + 1)))) = a by omega]
    exact hH y hy1 hy2
theorem last_done {d d' : Array Tg} {a i m : Nat} (h1 : a ≤ i) (h2 : i ≤ m) (hl : SI a m d) (hL : ∀ t, a ≤ t → t < i → lxB d[m]! d[t]! = false) (hH : ∀ t, i ≤ t → t < m → lxB d[m]! d[t]! = true)
    (hd : ∀ t, d'[t]! = rotF (gt d) i m (m + 1) t) : SI a (m + 1) d' := by
  have e1 : i + (m + 1 - m) = i + 1 := by omega
  have c := cut_le (d := d) (d' := d') (a := a) (s := i) (m := m) (e := m + 1) (b := m + 1) h1 h2 (by omega) (Nat.le_refl _) hl (one_sorted m d) hd (fun x y h1 h2 h3 h4 => by omega) (fun x y hx1 hx2 hy1 hy2 => by
    obtain rfl : y = m := by omega
    exact hH x hx1 hx2)
  have lo := rot_a (d := d) (d' := d') (a := a) (s := i) (m := m) (e := m + 1) (b := m + 1) h1 h2 (by omega) (Nat.le_refl _) hl hd
  have hi := rot_c (d := d) (d' := d') (a := a) (s := i) (m := m) (e := m + 1) h1 h2 (by omega) hl hd
  rw [e1] at c hi
  refine sorted_join (sorted_join (c := i) lo (one_sorted i d') ?_) hi c
  intro x y hx1 hx2 hy1 hy2
  obtain rfl : y = i := by omega
  rw [hd, hd]
  unfold rotF gt
  rw [if_neg (show ¬ (y ≤ x ∧ x < y + (m + 1 - m)) by omega), if_neg (show ¬ (y + (m + 1 - m) ≤ x ∧ x < m + 1) by omega), if_pos (show y ≤ y ∧ y < y + (m + 1 - m) by omega)]
  rw [show m + (y - y) = m by omega]
  exact hL x hx1 hx2

end Go.Proofs.YtiafhcgaikapcaaGreat


/-
  slices.rotateCmpFunc and symMergeCmpFunc at rows of tagged records: two sorted stretches become one.
-/
namespace Go.Proofs.YtiafhcgaikapcaaGreat
open Go.ChangeShapes Go.WideShapes Go.ChangeAt Go.RowKit Go.Joins
open Go.Shelf Go.Lib Go.Sort
set_option maxRecDepth 100000
set_option linter.unusedVariables false
set_option linter.unusedSimpArgs false

set_option maxHeartbeats 4000000 in
theorem rotate_k {k off : Nat} {enc : Tg → List Value} {w0 : World} {blk : Nat} {d0 : Array Tg} {g : Nat} (Z : Srt k off enc w0 blk d0 g) (w : World) (d : Array Tg) (hs : d.size = d0.size) (S : SWK enc k w0 blk off d w) (a m b : Nat) (ham : a < m) (hmb : m < b) (hb : b ≤ d.size) (cap : Nat) (fv : Value) :
    Calls Tryz.prog 224 #[.slice (some ⟨blk, off, none⟩) d.size cap, .int .i64 a, .int .i64 m, .int .i64 b, fv] w fun e w' => e = .returned (.tuple #[]) ∧ ∃ d', SWK enc k w0 blk off d' w' ∧ PermIn a b d d' ∧ ∀ t, d'[t]! = rotF (gt d) a m b t := by
  have hsz : d.size ≤ 1000 := by have := Z.sz; omega
  have CS : Hid (∀ (w : World) (dk : Array Tg), dk.size = d.size → SWK enc k w0 blk off dk w → ∀ (X Y N : Int) (x y n : Nat), X = (x : Int) → Y = (y : Int) → N = (n : Int) → x + n ≤ d.size → y + n ≤ d.size → ∀ fv : Value, Calls Tryz.prog 227 #[.slice (some ⟨blk, off, none⟩) d.size cap, .int .i64 X, .int .i64 Y, .int .i64 N, fv] w fun e w' => e = .returned (.tuple #[]) ∧ SWK enc k w0 blk off (swpR dk x y n) w') := fun w dk h S X Y N x y n e1 e2 e3 h1 h2 fv => by
    rw [← h, e1, e2, e3]
    exact swapRange_k k off Z.aE Z.zE enc w0 w blk d0 dk Z.R (by omega) S x y n (by omega) (by omega) (by omega) cap fv
  have S0 : Aside (SWK enc k w0 blk off d w) := S
  clear S Z hs
  go_enter Tryz.func224, Tryz.ntmps224
  go_wp2_with fail
  go_loopw [10, 11] (fun c1 c2 wr => ∃ (i j : Nat) (dk : Array Tg), c1 = .int .i64 i ∧ c2 = .int .i64 j ∧ 0 < i ∧ 0 < j ∧ i ≤ m - a ∧ j ≤ b - m ∧ dk.size = d.size ∧ Aside (SWK enc k w0 blk off dk wr) ∧ Aside (PermIn a b d dk) ∧ Aside (∀ t, rotF (gt dk) (m - i) m (m + j) t = rotF (gt d) a m b t)) (fun c1 c2 _ => (intOf c1).toNat + (intOf c2).toNat)
  case atStart =>
    refine ⟨m - a, b - m, d, by go_num, by go_num, by omega, by omega, by omega, by omega, rfl, S0, permIn_refl _ _ _, fun t => ?_⟩
    rw [show m - (m - a) = a by omega, show m + (b - m) = b by omega]
  case round =>
    clear S0
    obtain ⟨i, j, dk, rfl, rfl, hi0, hj0, hi, hj, hsk, S1, HP, HR⟩ := hrel
    rcases Nat.lt_trichotomy i j with hij | hij | hij
    · have hne : ((i : Int) == (j : Int)) = false := by simpa using (show (i : Int) ≠ (j : Int) by omega)
      have hgt : ¬ (j : Int) < (i : Int) := by omega
      go_wp2_with fail
      refine (unhide CS _ dk hsk S1.out _ _ _ (m - i) (m + j - i) i (by omega) (by omega) rfl (by omega) (by omega) _).mono ?_
      rintro e w1 ⟨rfl, S2⟩
      have S3 : Aside (SWK enc k w0 blk off (swpR dk (m - i) (m + j - i) i) w1) := S2
      clear S1 S2
      go_wp2_with fail
      go_roundw
      case rel =>
        refine ⟨i, j - i, swpR dk (m - i) (m + j - i) i, rfl, by go_num, hi0, by omega, hi, by omega, by rw [swpR_size]; exact hsk, S3, permIn_trans _ _ _ _ _ HP.out (swpR_perm dk _ _ a b i (by omega) (by omega) (by omega) (by omega) (by omega)), fun t => ?_⟩
        rw [rot_right dk m i j (by omega) hij (by omega) t]; exact HR.out t
      case measure => simp [intOf]; omega
    · subst hij
      go_wp2_with fail
      refine (unhide CS _ dk hsk S1.out _ _ _ (m - i) m i (by omega) rfl rfl (by omega) (by omega) _).mono ?_
      rintro e w1 ⟨rfl, S2⟩
      have S3 : Aside (SWK enc k w0 blk off (swpR dk (m - i) m i) w1) := S2
      clear S1 S2
      go_wp2_with fail
      go_end0
      refine ⟨rfl, _, S3.out, permIn_trans _ _ _ _ _ HP.out (swpR_perm dk _ _ a b i (by omega) (by omega) (by omega) (by omega) (by omega)), fun t => ?_⟩
      rw [rot_same dk m i (by omega) (by omega) t]; exact HR.out t
    · have hne : ((i : Int) == (j : Int)) = false := by simpa using (show (i : Int) ≠ (j : Int) by omega)
      have hgt : (j : Int) < (i : Int) := by omega
      go_wp2_with fail
      refine (unhide CS _ dk hsk S1.out _ _ _ (m - i) m j (by omega) rfl rfl (by omega) (by omega) _).mono ?_
      rintro e w1 ⟨rfl, S2⟩
      have S3 : Aside (SWK enc k w0 blk off (swpR dk (m - i) m j) w1) := S2
      clear S1 S2
      go_wp2_with fail
      go_roundw
      case rel =>
        refine ⟨i - j, j, swpR dk (m - i) m j, by go_num, rfl, by omega, hj0, by omega, hj, by rw [swpR_size]; exact hsk, S3, permIn_trans _ _ _ _ _ HP.out (swpR_perm dk _ _ a b j (by omega) (by omega) (by omega) (by omega) (by omega)), fun t => ?_⟩
        rw [rot_left dk m i j (by omega) hij (by omega) t]; exact HR.out t
      case measure => simp [intOf]; omega

end Go.Proofs.YtiafhcgaikapcaaGreat


/-
  slices.symMergeCmpFunc at rows of tagged records, where one of the two sorted stretches is of one record.
-/
namespace Go.Proofs.YtiafhcgaikapcaaGreat
open Go.ChangeShapes Go.WideShapes Go.ChangeAt Go.RowKit Go.Joins
open Go.Shelf Go.Lib Go.Sort
set_option maxRecDepth 100000
set_option linter.unusedVariables false
set_option linter.unusedSimpArgs false

/-- What symMergeCmpFunc is asked, and what it answers. -/
def Merges (k off : Nat) (enc : Tg → List Value) (w0 : World) (blk : Nat) (g : Nat) (cap : Nat) (d : Array Tg) (a m b : Nat) (w : World) : Prop :=
  Calls Tryz.prog 220 #[.slice (some ⟨blk, off, none⟩) d.size cap, .int .i64 a, .int .i64 m, .int .i64 b, .func (.func g) #[] #[]] w fun e w' => e = .returned (.tuple #[]) ∧ ∃ d', SWK enc k w0 blk off d' w' ∧ PermIn a b d d' ∧ SI a b d'

set_option maxHeartbeats 4000000 in
theorem merge_one {k off : Nat} {enc : Tg → List Value} {w0 : World} {blk : Nat} {d0 : Array Tg} {g : Nat} (Z : Srt k off enc w0 blk d0 g) (w : World) (d : Array Tg) (hs : d.size = d0.size) (S : SWK enc k w0 blk off d w) (a m b : Nat) (hm : m = a + 1) (hab : m < b) (hb : b ≤ d.size) (cap : Nat) (hr : SI m b d) (hc : Cross a m b d) :
    Merges k off enc w0 blk g cap d a m b w := by
  unfold Merges
  have mixed : Tryz.prog.follows .mixedOrders = true := by kernel_rfl
  have S0 : Aside (SWK enc k w0 blk off d w) := S
  have HZ : Aside (Srt k off enc w0 blk d0 g) := Z
  have HSR : Aside (SI m b d) := hr
  have HCR : Aside (Cross a m b d) := hc
  have aE := Z.aE
  have zE := Z.zE
  have eg := Z.eg
  have hsz : d.size ≤ 1000 := by have := Z.sz; omega
  have HS := hide hs
  have HM := hide hm
  have hd1 : (m : Int) - (a : Int) = 1 := by omega
  have ham : a < m := by omega
  clear S Z hs hr hc hm
  go_enter Tryz.func220, Tryz.ntmps220
  go_wp2_with fail
  go_loopw [10, 11, 12] (fun c1 c2 c3 wr => ∃ i j : Nat, c1 = .int .i64 i ∧ c2 = .int .i64 j ∧ m ≤ i ∧ i ≤ j ∧ j ≤ b ∧ Aside (SWK enc k w0 blk off d wr) ∧ Aside (∀ t, m ≤ t → t < i → lxB d[t]! d[a]! = true) ∧ Aside (∀ t, j ≤ t → t < b → lxB d[t]! d[a]! = false)) (fun c1 c2 c3 _ => (intOf c2).toNat - (intOf c1).toNat)
  case atStart => exact ⟨m, b, rfl, rfl, Nat.le_refl _, by omega, Nat.le_refl _, S0, fun t h1 h2 => by omega, fun t h1 h2 => by omega⟩
  case round =>
    clear S0
    obtain ⟨i, j, rfl, rfl, h1, h2, h3, S1, HL, HH⟩ := hrel
    by_cases hlt : i < j
    · have hltz : (i : Int) < (j : Int) := by omega
      obtain ⟨h, hh⟩ : ∃ h : Nat, ((i : Int) + (j : Int)) / 2 = (h : Int) := ⟨(i + j) / 2, by omega⟩
      have hih : i ≤ h := by omega
      have hhj : h < j := by omega
      go_wp2_with fail
      clear hh
      have bh : (h : Int) < (d.size : Int) := by omega
      have ba : (a : Int) < (d.size : Int) := by omega
      have lh := S1.out.ld HZ.out.R (by have := unhide HS; omega) Tryz.prog h (by omega)
      have la := S1.out.ld HZ.out.R (by have := unhide HS; omega) Tryz.prog a (by omega)
      have hcg := S1.out.cmp HZ.out.C (by have := unhide HS; omega) d[h]! d[a]!
      have SG : Aside (∀ n os, SWK enc k w0 blk off d (grow (wr.drewN n) os)) := fun n os => S1.out.grown n os
      clear S1
      obtain ⟨xh, hxh⟩ : ∃ x, d[h]! = x := ⟨_, rfl⟩
      obtain ⟨xa, hxa⟩ : ∃ x, d[a]! = x := ⟨_, rfl⟩
      rw [hxh] at lh hcg
      rw [hxa] at la hcg
      have HXH := hide hxh
      have HXA := hide hxa
      clear hxh hxa
      by_cases hlv : cfT xh xa < 0
      · have HLT := hide (ltT_pos hlv)
        go_wp2_with fail
        go_quiet_grown (first | (go_at_fn g; refine Calls.grown_of (hcg _ _)))
        go_wp2_with fail
        go_roundw
        case rel =>
          refine ⟨h + 1, j, by go_num, rfl, by omega, by omega, h3, SG.out nq osq, fun t ht1 ht2 => ?_, HH⟩
          have e := unhide HLT
          rw [← unhide HXH, ← unhide HXA, ltT_lx (HCR.out a h (Nat.le_refl _) (by omega) (by omega) (by omega))] at e
          exact lx_le' e (HSR.out.le ht1 (by omega) (by omega))
        case measure => simp [intOf]; omega
      · have HLT := hide (ltT_neg hlv)
        go_wp2_with fail
        go_quiet_grown (first | (go_at_fn g; refine Calls.grown_of (hcg _ _)))
        go_wp2_with fail
        go_roundw
        case rel =>
          refine ⟨i, h, rfl, by go_num, h1, hih, by omega, SG.out nq osq, HL, fun t ht1 ht2 => ?_⟩
          have e := unhide HLT
          rw [← unhide HXH, ← unhide HXA, ltT_lx (HCR.out a h (Nat.le_refl _) (by omega) (by omega) (by omega))] at e
          exact swoT.ntrans _ _ _ (HSR.out.le (by omega) ht1 ht2) e
        case measure => simp [intOf]; omega
    · obtain rfl : i = j := by omega
      go_wp2_with fail
      go_loopw [13] (fun c wr => ∃ (x : Nat) (dk : Array Tg), c = .int .i64 x ∧ a ≤ x ∧ x + 1 ≤ i ∧ dk.size = d.size ∧ Aside (SWK enc k w0 blk off dk wr) ∧ Aside (PermIn a b d dk) ∧ Aside (∀ t, dk[t]! = rotF (gt d) a m (x + 1) t)) (fun c _ => i - (intOf c).toNat)
      case atStart => exact ⟨a, d, rfl, Nat.le_refl _, by omega, rfl, S1, permIn_refl _ _ _, fun t => rot_none d (by omega) (by have := unhide HM; omega) (Or.inr (unhide HM)) t⟩
      case round =>
        clear S1
        obtain ⟨x, dk, rfl, hx1, hx2, hsk, S2, HP, HR⟩ := hrel
        by_cases hlt2 : x + 1 < i
        · have hltz : (x : Int) < (i : Int) - 1 := by omega
          go_wp2_with fail
          have ex1 : ((x : Int) + 1).toNat = x + 1 := by omega
          have px1 : (0 : Int) ≤ (x : Int) + 1 := by omega
          have bx1 : (x : Int) + 1 < (d.size : Int) := by omega
          have bx0 : (x : Int) < (d.size : Int) := by omega
          have rx1 : IntKind.i64.wrap ((x : Int) + 1) = (x : Int) + 1 := by rw [IntKind.wrap_i64]; omega
          have S4 : Aside (SWK enc k w0 blk off (swp dk x (x + 1)) ((wr.drew.setCells blk (off + x * k) (enc dk[x + 1]!)).setCells blk (off + (x + 1) * k) (enc dk[x]!))) := S2.out.swapped HZ.out.R x (x + 1) (by omega) (by omega)
          have l1 := S2.out.ld1 HZ.out.R (by have := unhide HS; omega) Tryz.prog x (by omega)
          have l2 := S2.out.ld1 HZ.out.R (by have := unhide HS; omega) Tryz.prog (x + 1) (by omega)
          have s1 := S2.out.st1 HZ.out.R (by have := unhide HS; omega) Tryz.prog x (by omega) dk[x + 1]!
          have s2 := S2.out.st2 HZ.out.R (by have := unhide HS; omega) Tryz.prog x (x + 1) (by omega) (by omega) dk[x + 1]! dk[x]!
          have n1 : (enc dk[x]!).length = k := HZ.out.R.hk _
          have n2 : (enc dk[x + 1]!).length = k := HZ.out.R.hk _
          generalize enc dk[x]! = e1 at S4 l1 s2 n1
          generalize enc dk[x + 1]! = e2 at S4 l2 s1 s2 n2
          clear S2
          go_big_region_o
          clear l1 l2 s1 s2
          generalize (wr.drew.setCells blk (off + x * k) e2).setCells blk (off + (x + 1) * k) e1 = w4 at S4 ⊢
          go_wp2_with fail
          go_roundw
          case rel => exact ⟨x + 1, swp dk x (x + 1), by go_num, by omega, by omega, by rw [size_swp]; exact hsk, S4, permIn_trans _ _ _ _ _ HP.out (swp_permIn dk a b x (x + 1) hx1 (by omega) (by omega) (by omega) (by omega)), fun t => by rw [unhide HM]; exact rot_up hx1 (by omega) (fun t => by rw [HR.out t, unhide HM]) t⟩
          case measure => simp [intOf]; omega
        · have hltz : ¬ (x : Int) < (i : Int) - 1 := by omega
          go_wp2_with fail
          refine bodyPost_ret (v := .tuple #[]) (results_none Tryz.results220 _ _ _) rfl ?_
          have e : x + 1 = i := by omega
          have em := unhide HM
          rw [e] at HR
          subst em
          exact ⟨rfl, dk, S2.out, HP.out, one_done h1 h3 HSR.out HL.out HH.out HR.out⟩

set_option maxHeartbeats 4000000 in
theorem merge_last {k off : Nat} {enc : Tg → List Value} {w0 : World} {blk : Nat} {d0 : Array Tg} {g : Nat} (Z : Srt k off enc w0 blk d0 g) (w : World) (d : Array Tg) (hs : d.size = d0.size) (S : SWK enc k w0 blk off d w) (a m b : Nat) (ham : a + 1 < m) (hm : b = m + 1) (hb : b ≤ d.size) (cap : Nat) (hl : SI a m d) (hc : Cross a m b d) :
    Merges k off enc w0 blk g cap d a m b w := by
  unfold Merges
  have mixed : Tryz.prog.follows .mixedOrders = true := by kernel_rfl
  have S0 : Aside (SWK enc k w0 blk off d w) := S
  have HZ : Aside (Srt k off enc w0 blk d0 g) := Z
  have HSL : Aside (SI a m d) := hl
  have HCR : Aside (Cross a m b d) := hc
  have aE := Z.aE
  have zE := Z.zE
  have eg := Z.eg
  have hsz : d.size ≤ 1000 := by have := Z.sz; omega
  have HS := hide hs
  have HM := hide hm
  have hd1 : (b : Int) - (m : Int) = 1 := by omega
  have hd0 : ((m : Int) - (a : Int) == 1) = false := by simpa using (show (m : Int) - (a : Int) ≠ 1 by omega)
  have hmb : m < b := by omega
  clear S Z hs hl hc hm
  go_enter Tryz.func220, Tryz.ntmps220
  go_wp2_with fail
  go_loopw [14, 15, 16] (fun c1 c2 c3 wr => ∃ i j : Nat, c1 = .int .i64 i ∧ c2 = .int .i64 j ∧ a ≤ i ∧ i ≤ j ∧ j ≤ m ∧ Aside (SWK enc k w0 blk off d wr) ∧ Aside (∀ t, a ≤ t → t < i → lxB d[m]! d[t]! = false) ∧ Aside (∀ t, j ≤ t → t < m → lxB d[m]! d[t]! = true)) (fun c1 c2 c3 _ => (intOf c2).toNat - (intOf c1).toNat)
  case atStart => exact ⟨a, m, rfl, rfl, Nat.le_refl _, by omega, Nat.le_refl _, S0, fun t h1 h2 => by omega, fun t h1 h2 => by omega⟩
  case round =>
    clear S0
    obtain ⟨i, j, rfl, rfl, h1, h2, h3, S1, HL, HH⟩ := hrel
    by_cases hlt : i < j
    · have hltz : (i : Int) < (j : Int) := by omega
      obtain ⟨h, hh⟩ : ∃ h : Nat, ((i : Int) + (j : Int)) / 2 = (h : Int) := ⟨(i + j) / 2, by omega⟩
      have hih : i ≤ h := by omega
      have hhj : h < j := by omega
      go_wp2_with fail
      clear hh
      have bh : (h : Int) < (d.size : Int) := by omega
      have ba : (m : Int) < (d.size : Int) := by omega
      have lh := S1.out.ld HZ.out.R (by have := unhide HS; omega) Tryz.prog h (by omega)
      have la := S1.out.ld HZ.out.R (by have := unhide HS; omega) Tryz.prog m (by omega)
      have hcg := S1.out.cmp HZ.out.C (by have := unhide HS; omega) d[m]! d[h]!
      have SG : Aside (∀ n os, SWK enc k w0 blk off d (grow (wr.drewN n) os)) := fun n os => S1.out.grown n os
      clear S1
      obtain ⟨xh, hxh⟩ : ∃ x, d[h]! = x := ⟨_, rfl⟩
      obtain ⟨xm, hxm⟩ : ∃ x, d[m]! = x := ⟨_, rfl⟩
      rw [hxm, hxh] at hcg
      rw [hxh] at lh
      rw [hxm] at la
      have HXH := hide hxh
      have HXM := hide hxm
      clear hxh hxm
      by_cases hlv : cfT xm xh < 0
      · have HLT := hide (ltT_pos hlv)
        go_wp2_with fail
        go_quiet_grown (first | (go_at_fn g; refine Calls.grown_of (hcg _ _)))
        go_wp2_with fail
        go_roundw
        case rel =>
          refine ⟨i, h, rfl, by go_num, h1, hih, by omega, SG.out nq osq, HL, fun t ht1 ht2 => ?_⟩
          have e := unhide HLT
          rw [← unhide HXH, ← unhide HXM, ltT_lx (HCR.out h m (by omega) (by omega) (Nat.le_refl _) hmb)] at e
          exact lx_le e (HSL.out.le (by omega) ht1 ht2)
        case measure => simp [intOf]; omega
      · have HLT := hide (ltT_neg hlv)
        obtain ⟨v, hv⟩ : ∃ v, cfT xm xh = v := ⟨_, rfl⟩
        rw [hv] at hcg hlv
        clear hv
        have hvn : (!decide (v < 0)) = true := by rw [decide_eq_false hlv]; rfl
        clear hlv
        go_wp2_with fail
        go_quiet_grown (first | (go_at_fn g; refine Calls.grown_of (hcg _ _)))
        go_wp2_with fail
        go_roundw
        case rel =>
          refine ⟨h + 1, j, by go_num, rfl, by omega, by omega, h3, SG.out nq osq, fun t ht1 ht2 => ?_, HH⟩
          have e := unhide HLT
          rw [← unhide HXH, ← unhide HXM, ltT_lx (HCR.out h m (by omega) (by omega) (Nat.le_refl _) hmb)] at e
          exact swoT.ntrans _ _ _ e (HSL.out.le ht1 (by omega) (by omega))
        case measure => simp [intOf]; omega
    · obtain rfl : i = j := by omega
      go_wp2_with fail
      go_loopw [17] (fun c wr => ∃ (x : Nat) (dk : Array Tg), c = .int .i64 x ∧ i ≤ x ∧ x ≤ m ∧ dk.size = d.size ∧ Aside (SWK enc k w0 blk off dk wr) ∧ Aside (PermIn a b d dk) ∧ Aside (∀ t, dk[t]! = rotF (gt d) x m (m + 1) t)) (fun c _ => (intOf c).toNat)
      case atStart => exact ⟨m, d, rfl, h3, Nat.le_refl _, rfl, S1, permIn_refl _ _ _, fun t => rot_none d (Nat.le_refl _) (by omega) (Or.inl rfl) t⟩
      case round =>
        clear S1
        obtain ⟨y, dk, rfl, hx1, hx2, hsk, S2, HP, HR⟩ := hrel
        by_cases hlt2 : i < y
        · obtain ⟨x, rfl⟩ : ∃ x, y = x + 1 := ⟨y - 1, by omega⟩
          have hltz : (i : Int) < (x : Int) + 1 := by omega
          go_wp2_with fail
          have ex1 : ((x : Int) + 1).toNat = x + 1 := by omega
          have px1 : (0 : Int) ≤ (x : Int) + 1 := by omega
          have bx1 : (x : Int) + 1 < (d.size : Int) := by omega
          have bx0 : (x : Int) < (d.size : Int) := by omega
          have rx1 : IntKind.i64.wrap ((x : Int)) = (x : Int) := by rw [IntKind.wrap_i64]; omega
          have S4 : Aside (SWK enc k w0 blk off (swp dk (x + 1) x) ((wr.drew.setCells blk (off + (x + 1) * k) (enc dk[x]!)).setCells blk (off + x * k) (enc dk[x + 1]!))) := S2.out.swapped HZ.out.R (x + 1) x (by omega) (by omega)
          have l1 := S2.out.ld1 HZ.out.R (by have := unhide HS; omega) Tryz.prog (x + 1) (by omega)
          have l2 := S2.out.ld1 HZ.out.R (by have := unhide HS; omega) Tryz.prog x (by omega)
          have s1 := S2.out.st1 HZ.out.R (by have := unhide HS; omega) Tryz.prog (x + 1) (by omega) dk[x]!
          have s2 := S2.out.st2 HZ.out.R (by have := unhide HS; omega) Tryz.prog (x + 1) x (by omega) (by omega) dk[x]! dk[x + 1]!
          have n1 : (enc dk[x + 1]!).length = k := HZ.out.R.hk _
          have n2 : (enc dk[x]!).length = k := HZ.out.R.hk _
          generalize enc dk[x + 1]! = e1 at S4 l1 s2 n1
          generalize enc dk[x]! = e2 at S4 l2 s1 s2 n2
          clear S2
          go_big_region_o
          clear l1 l2 s1 s2
          generalize (wr.drew.setCells blk (off + (x + 1) * k) e2).setCells blk (off + x * k) e1 = w4 at S4 ⊢
          go_wp2_with fail
          go_roundw
          case rel => exact ⟨x, swp dk (x + 1) x, by first | rfl | go_num, by omega, by omega, by rw [size_swp]; exact hsk, S4, permIn_trans _ _ _ _ _ HP.out (swp_permIn dk a b (x + 1) x (by omega) (by omega) (by omega) (by omega) (by omega)), fun t => rot_down hx2 (by omega) HR.out t⟩
          case measure => first | (simp [intOf]; done) | (simp [intOf]; omega)
        · obtain rfl : i = y := by omega
          go_wp2_with fail
          refine bodyPost_ret (v := .tuple #[]) (results_none Tryz.results220 _ _ _) rfl ?_
          have em := unhide HM
          subst em
          exact ⟨rfl, dk, S2.out, HP.out, last_done h1 h3 HSL.out HL.out HH.out HR.out⟩

end Go.Proofs.YtiafhcgaikapcaaGreat


/-
  Where symMerge cuts two sorted stretches: what the search finds is a cut; two halves merged apart are the whole. No program.
-/
namespace Go.Proofs.YtiafhcgaikapcaaGreat
open Go.Sort
set_option maxRecDepth 10000
set_option linter.unusedVariables false

theorem search_lo {a m b lo s e p : Nat} {d : Array Tg} (hl : SI a m d) (hr : SI m b d) (h0 : a ≤ lo) (h1 : lo ≤ s) (h2 : s ≤ m) (h3 : m ≤ e) (h4 : e ≤ b) (hp : p + 1 = e + s) (hlo : lo = a ∨ (s = lo → e = b))
    (hL : ∀ c, lo ≤ c → c < s → lxB d[p - c]! d[c]! = false) : ∀ x y, a ≤ x → x < s → e ≤ y → y < b → lxB d[y]! d[x]! = false := fun x y hx1 hx2 hy1 hy2 => by
  by_cases hs : lo < s
  · have h := hL (s - 1) (by omega) (by omega)
    rw [show p - (s - 1) = e by omega] at h
    exact swoT.ntrans _ _ _ (hr.le h3 hy1 hy2) (swoT.ntrans _ _ _ h (hl.le hx1 (by omega) (by omega)))
  · exfalso
    rcases hlo with h | h
    · omega
    · have := h (by omega); omega
theorem search_hi {a m b r0 s e p : Nat} {d : Array Tg} (hl : SI a m d) (hr : SI m b d) (h0 : a ≤ s) (h1 : s ≤ r0) (h2 : r0 ≤ m) (h3 : m ≤ e) (h4 : e ≤ b) (hp : p + 1 = e + s) (hhi : r0 = m ∨ (s = r0 → e = m))
    (hH : ∀ c, s ≤ c → c < r0 → lxB d[p - c]! d[c]! = true) : ∀ x y, s ≤ x → x < m → m ≤ y → y < e → lxB d[y]! d[x]! = true := fun x y hx1 hx2 hy1 hy2 => by
  by_cases hs : s < r0
  · have h := hH s (Nat.le_refl _) hs
    rw [show p - s = e - 1 by omega] at h
    exact lx_le (lx_le' h (hr.le hy1 (by omega) (by omega))) (hl.le (by omega) hx1 hx2)
  · exfalso
    rcases hhi with h | h
    · omega
    · have := h (by omega); omega
/-- What a cut leaves to be merged. -/
structure CutOk (a s mid e b : Nat) (d d1 : Array Tg) : Prop where
  p : PermIn a b d d1
  sa : SI a s d1
  sb : SI s mid d1
  sc : SI mid e d1
  sd : SI e b d1
  ca : Cross a s mid d1
  cc : Cross mid e b d1
  cut : ∀ x y, a ≤ x → x < mid → mid ≤ y → y < b → lxB d1[y]! d1[x]! = false
theorem cut_ok {a s m e b mid : Nat} {d d1 : Array Tg} (h1 : a ≤ s) (h2 : s ≤ m) (h3 : m ≤ e) (h4 : e ≤ b) (hmid : s + (e - m) = mid) (hl : SI a m d) (hr : SI m b d) (hc : Cross a m b d) (hp : PermIn a b d d1) (hd : ∀ t, d1[t]! = rotF (gt d) s m e t)
    (hlo : ∀ x y, a ≤ x → x < s → e ≤ y → y < b → lxB d[y]! d[x]! = false) (hhi : ∀ x y, s ≤ x → x < m → m ≤ y → y < e → lxB d[y]! d[x]! = true) : CutOk a s mid e b d d1 := by
  subst hmid
  exact ⟨hp, rot_a h1 h2 h3 h4 hl hd, rot_b h2 h3 h4 hr hd, rot_c h1 h2 h3 hl hd, rot_d h2 h3 h4 hr hd, cross_ab h1 h2 h3 h4 hc hd, cross_cd h1 h2 h3 h4 hc hd, cut_le h1 h2 h3 h4 hl hr hd hlo hhi⟩
theorem CutOk.skip {a s mid e b : Nat} {d d1 : Array Tg} (h : CutOk a s mid e b d d1) (hs : s = a ∨ s = mid) : PermIn a mid d1 d1 ∧ SI a mid d1 := by
  refine ⟨permIn_refl _ _ _, ?_⟩
  rcases hs with rfl | rfl
  · exact h.sb
  · exact h.sa
theorem same_high {c b : Nat} {d1 d2 : Array Tg} {a : Nat} (hp : PermIn a c d1 d2) {x : Nat} (h : c ≤ x) : d2[x]! = d1[x]! := hp.2.1 x (Or.inr h)
theorem CutOk.high {a s mid e b : Nat} {d d1 d2 : Array Tg} (h : CutOk a s mid e b d d1) (hme : mid ≤ e) (hp : PermIn a mid d1 d2) : SI mid e d2 ∧ SI e b d2 ∧ Cross mid e b d2 := by
  have e2 : ∀ x, mid ≤ x → d2[x]! = d1[x]! := fun x hx => hp.2.1 x (Or.inr hx)
  refine ⟨fun i j h1 h2 h3 => ?_, fun i j h1 h2 h3 => ?_, fun x y h1 h2 h3 h4 => ?_⟩
  · rw [e2 i h1, e2 j (by omega)]; exact h.sc i j h1 h2 h3
  · rw [e2 i (by omega), e2 j (by omega)]; exact h.sd i j h1 h2 h3
  · rw [e2 x h1, e2 y (by omega)]; exact h.cc x y h1 h2 h3 h4
theorem CutOk.skip2 {a s mid e b : Nat} {d d1 d2 : Array Tg} (h : CutOk a s mid e b d d1) (hme : mid ≤ e) (hp : PermIn a mid d1 d2) (he : e = mid ∨ e = b) : PermIn mid b d2 d2 ∧ SI mid b d2 := by
  obtain ⟨h1, h2, h3⟩ := h.high hme hp
  refine ⟨permIn_refl _ _ _, ?_⟩
  rcases he with rfl | rfl
  · exact h2
  · exact h1
theorem CutOk.fin {a s mid e b : Nat} {d d1 d2 d3 : Array Tg} (h : CutOk a s mid e b d d1) (h1 : a ≤ mid) (h2 : mid ≤ b) (hb : b ≤ d.size) (p2 : PermIn a mid d1 d2 ∧ SI a mid d2) (p3 : PermIn mid b d2 d3 ∧ SI mid b d3) : PermIn a b d d3 ∧ SI a b d3 := by
  obtain ⟨q1, q2⟩ := join_perm h1 h2 (by rw [h.p.1]; exact hb) h.cut p2.1 p2.2 p3.1 p3.2
  exact ⟨permIn_trans _ _ _ _ _ h.p q1, q2⟩

end Go.Proofs.YtiafhcgaikapcaaGreat


/-
  slices.symMergeCmpFunc at rows of tagged records: two sorted stretches of any lengths become one.
-/
namespace Go.Proofs.YtiafhcgaikapcaaGreat
open Go.ChangeShapes Go.WideShapes Go.ChangeAt Go.RowKit Go.Joins
open Go.Shelf Go.Lib Go.Sort
set_option maxRecDepth 100000
set_option linter.unusedVariables false
set_option linter.unusedSimpArgs false

set_option maxHeartbeats 8000000 in
theorem merge_gen {k off : Nat} {enc : Tg → List Value} {w0 : World} {blk : Nat} {d0 : Array Tg} {g : Nat} (Z : Srt k off enc w0 blk d0 g) (w : World) (d : Array Tg) (hs : d.size = d0.size) (S : SWK enc k w0 blk off d w) (a m b : Nat) (ham : a + 1 < m) (hmb : m + 1 < b) (hb : b ≤ d.size) (cap : Nat) (hl : SI a m d) (hr : SI m b d) (hc : Cross a m b d)
    (IH : ∀ (w : World) (d1 : Array Tg), d1.size = d.size → SWK enc k w0 blk off d1 w → ∀ x y z : Nat, x < y → y < z → z ≤ d.size → z - x < b - a → SI x y d1 → SI y z d1 → Cross x y z d1 → Merges k off enc w0 blk g cap d1 x y z w) :
    Merges k off enc w0 blk g cap d a m b w := by
  have CM : Hid (∀ (w : World) (d1 : Array Tg), d1.size = d.size → SWK enc k w0 blk off d1 w → ∀ x y z : Nat, x < y → y < z → z ≤ d.size → z - x < b - a → SI x y d1 → SI y z d1 → Cross x y z d1 →
      Calls Tryz.prog 220 #[.slice (some ⟨blk, off, none⟩) d.size cap, .int .i64 x, .int .i64 y, .int .i64 z, .func (.func g) #[] #[]] w fun e w' => e = .returned (.tuple #[]) ∧ ∃ d', SWK enc k w0 blk off d' w' ∧ PermIn x z d1 d' ∧ SI x z d') := fun w d1 hd S x y z q1 q2 q3 q4 q5 q6 q7 => by
    have := IH w d1 hd S x y z q1 q2 q3 q4 q5 q6 q7
    unfold Merges at this
    rwa [hd] at this
  have CR : Hid (∀ (w : World), SWK enc k w0 blk off d w → ∀ x y z : Nat, x < y → y < z → z ≤ d.size → ∀ fv : Value,
      Calls Tryz.prog 224 #[.slice (some ⟨blk, off, none⟩) d.size cap, .int .i64 x, .int .i64 y, .int .i64 z, fv] w fun e w' => e = .returned (.tuple #[]) ∧ ∃ d', SWK enc k w0 blk off d' w' ∧ PermIn x z d d' ∧ ∀ t, d'[t]! = rotF (gt d) x y z t) := fun w S x y z q1 q2 q3 fv => rotate_k Z w d hs S x y z q1 q2 q3 cap fv
  unfold Merges
  have mixed : Tryz.prog.follows .mixedOrders = true := by kernel_rfl
  have S0 : Aside (SWK enc k w0 blk off d w) := S
  have HZ : Aside (Srt k off enc w0 blk d0 g) := Z
  have HSL : Aside (SI a m d) := hl
  have HSR : Aside (SI m b d) := hr
  have HCR : Aside (Cross a m b d) := hc
  have aE := Z.aE
  have zE := Z.zE
  have eg := Z.eg
  have hsz : d.size ≤ 1000 := by have := Z.sz; omega
  have HS := hide hs
  have hd0 : ((m : Int) - (a : Int) == 1) = false := by simpa using (show (m : Int) - (a : Int) ≠ 1 by omega)
  have hd1 : ((b : Int) - (m : Int) == 1) = false := by simpa using (show (b : Int) - (m : Int) ≠ 1 by omega)
  obtain ⟨mid, hmid⟩ : ∃ mid : Nat, ((a : Int) + (b : Int)) / 2 = (mid : Int) := ⟨(a + b) / 2, by omega⟩
  obtain ⟨N, hN⟩ : ∃ N : Nat, (mid : Int) + (m : Int) = (N : Int) := ⟨mid + m, by omega⟩
  obtain ⟨P, hP⟩ : ∃ P : Nat, (N : Int) - 1 = (P : Int) := ⟨N - 1, by omega⟩
  clear S Z hs hl hr hc IH
  by_cases hA : mid < m
  · have hAz : (mid : Int) < (m : Int) := by omega
    obtain ⟨lo, hlo⟩ : ∃ lo : Nat, (N : Int) - (b : Int) = (lo : Int) := ⟨N - b, by omega⟩
    go_enter Tryz.func220, Tryz.ntmps220
    go_wp2_with fail
    go_loopw [20, 21, 23] (fun c1 c2 c3 wr => ∃ s r : Nat, c1 = .int .i64 s ∧ c2 = .int .i64 r ∧ lo ≤ s ∧ s ≤ r ∧ r ≤ mid ∧ Aside (SWK enc k w0 blk off d wr) ∧ Aside (∀ c, lo ≤ c → c < s → lxB d[P - c]! d[c]! = false) ∧ Aside (∀ c, r ≤ c → c < mid → lxB d[P - c]! d[c]! = true)) (fun c1 c2 c3 _ => (intOf c2).toNat - (intOf c1).toNat)
    case atStart => exact ⟨lo, mid, rfl, rfl, Nat.le_refl _, by omega, Nat.le_refl _, S0, fun t h1 h2 => by omega, fun t h1 h2 => by omega⟩
    case round =>
      clear S0
      obtain ⟨s, r, rfl, rfl, h1, h2, h3, S1, HL, HH⟩ := hrel
      by_cases hlt : s < r
      · have hltz : (s : Int) < (r : Int) := by omega
        obtain ⟨c, hh⟩ : ∃ c : Nat, ((s : Int) + (r : Int)) / 2 = (c : Int) := ⟨(s + r) / 2, by omega⟩
        have hih : s ≤ c := by omega
        have hhj : c < r := by omega
        go_wp2_with fail
        clear hh
        obtain ⟨u, hu⟩ : ∃ u : Nat, (P : Int) - (c : Int) = (u : Int) := ⟨P - c, by omega⟩
        have hu2 : u = P - c := by omega
        have wu : IntKind.i64.wrap (u : Int) = (u : Int) := by rw [IntKind.wrap_i64]; omega
        have bc : (c : Int) < (d.size : Int) := by omega
        have bu : (u : Int) < (d.size : Int) := by omega
        have lh := S1.out.ld HZ.out.R (by have := unhide HS; omega) Tryz.prog c (by omega)
        have la := S1.out.ld HZ.out.R (by have := unhide HS; omega) Tryz.prog u (by omega)
        have hcg := S1.out.cmp HZ.out.C (by have := unhide HS; omega) d[u]! d[c]!
        have SG : Aside (∀ n os, SWK enc k w0 blk off d (grow (wr.drewN n) os)) := fun n os => S1.out.grown n os
        have HTG : Hid (ltT d[u]! d[c]! = lxB d[P - c]! d[c]!) := by
          show _ = _
          rw [ltT_lx (HCR.out c u (by omega) (by omega) (by omega) (by omega)), hu2]
        clear S1 hu2
        obtain ⟨xc, hxc⟩ : ∃ x, d[c]! = x := ⟨_, rfl⟩
        obtain ⟨xu, hxu⟩ : ∃ x, d[u]! = x := ⟨_, rfl⟩
        rw [hxc, hxu] at hcg
        rw [hxc] at lh
        rw [hxu] at la
        have HT2 : Hid (ltT xu xc = lxB d[P - c]! d[c]!) := by
          have := unhide HTG
          rw [hxu] at this
          rw [← this, hxc]; rfl
        clear hxc hxu HTG
        by_cases hlv : cfT xu xc < 0
        · have HLT := hide (ltT_pos hlv)
          go_wp2_with fail
          go_quiet_grown (first | (go_at_fn g; refine Calls.grown_of (hcg _ _)))
          go_wp2_with fail
          go_roundw
          case rel =>
            refine ⟨s, c, rfl, by go_num, h1, hih, by omega, SG.out nq osq, HL, fun t ht1 ht2 => ?_⟩
            have e := unhide HT2
            rw [unhide HLT] at e
            cases ht : lxB d[P - t]! d[t]! with
            | true => rfl
            | false =>
              rw [cut_mono HSL.out HSR.out (by omega) ht1 (by omega) (by omega) (by omega) (by omega) ht] at e
              simp at e
          case measure => simp [intOf]; omega
        · have HLT := hide (ltT_neg hlv)
          obtain ⟨v, hv⟩ : ∃ v, cfT xu xc = v := ⟨_, rfl⟩
          rw [hv] at hcg hlv
          clear hv
          have hvn : (!decide (v < 0)) = true := by rw [decide_eq_false hlv]; rfl
          clear hlv
          go_wp2_with fail
          go_quiet_grown (first | (go_at_fn g; refine Calls.grown_of (hcg _ _)))
          go_wp2_with fail
          go_roundw
          case rel =>
            refine ⟨c + 1, r, by go_num, rfl, by omega, by omega, h3, SG.out nq osq, fun t ht1 ht2 => ?_, HH⟩
            have e := unhide HT2
            rw [unhide HLT] at e
            exact cut_mono HSL.out HSR.out (by omega) (show t ≤ c by omega) (by omega) (by omega) (by omega) (by omega) e.symm
          case measure => simp [intOf]; omega
      · obtain rfl : s = r := by omega
        obtain ⟨e, he⟩ : ∃ e : Nat, (N : Int) - (s : Int) = (e : Int) := ⟨N - s, by omega⟩
        have hlo : Hid (∀ x y, a ≤ x → x < s → e ≤ y → y < b → lxB d[y]! d[x]! = false) := search_lo (lo := lo) HSL.out HSR.out (by omega) h1 (by omega) (by omega) (by omega) (p := P) (by omega) (by omega) HL.out
        have hhi : Hid (∀ x y, s ≤ x → x < m → m ≤ y → y < e → lxB d[y]! d[x]! = true) := search_hi (r0 := mid) HSL.out HSR.out (by omega) h3 (by omega) (by omega) (by omega) (p := P) (by omega) (by omega) HH.out
        have HCUT : Hid (∀ d1 : Array Tg, PermIn a b d d1 → (∀ t, d1[t]! = rotF (gt d) s m e t) → CutOk a s mid e b d d1) := fun d1 hp hd => cut_ok (by omega) (by omega) (by omega) (by omega) (by omega) HSL.out HSR.out HCR.out hp hd (unhide hlo) (unhide hhi)
        have HN0 : Hid (s = m ∨ m = e → CutOk a s mid e b d d) := fun h => unhide HCUT d (permIn_refl _ _ _) (fun t => rot_none d (by omega) (by omega) h t)
        have g1 : (s : Int) ≤ m ∧ (m : Int) ≤ e ∧ (s : Int) ≤ mid ∧ (mid : Int) ≤ e ∧ (e : Int) ≤ b ∧ (a : Int) ≤ s ∧ (a : Int) < m ∧ (m : Int) < b ∧ (a : Int) < mid ∧ (mid : Int) < b := by omega
        have g2 : (s = m ∧ e = mid ∧ s < mid) ∨ (s = m ∧ e = mid ∧ s = mid) ∨ (s < m ∧ s = mid ∧ e = m) ∨ ((s < m ∧ m < e ∧ s < mid ∧ mid < e) ∧ ((a < s ∧ e < b) ∨ (a < s ∧ e = b) ∨ (a = s ∧ e < b) ∨ (a = s ∧ e = b))) := by omega
        clear hlo hhi HL HH
        rcases g2 with ⟨q1, q2, q3⟩ | ⟨q1, q2, q3⟩ | ⟨q1, q2, q3⟩ | ⟨⟨q1, q2, q3, q4⟩, q5⟩
        · have k1 : ¬ (s : Int) < (m : Int) := by omega
          have k2 : (a : Int) < (s : Int) := by omega
          have k3 : (s : Int) < (mid : Int) := by omega
          have k4 : ¬ (mid : Int) < (e : Int) := by omega
          have HK := hide (unhide HN0 (Or.inl q1))
          have HE : Hid (e = mid) := q2
          clear q1 q2 q3 HCUT HN0
          go_wp2_with fail
          refine (unhide CM _ d rfl S1.out a s mid (by omega) (by omega) (by omega) (by omega) (unhide HK).sa (unhide HK).sb (unhide HK).ca).mono ?_
          rintro e' w2 ⟨rfl, d2, S2, p1, p2⟩
          have S3 : Aside (SWK enc k w0 blk off d2 w2) := S2
          have P2 : Hid (PermIn a mid d d2 ∧ SI a mid d2) := ⟨p1, p2⟩
          clear S1 S2 p1 p2
          go_wp2_with fail
          all_goals
            go_end0
            obtain ⟨p1, p2⟩ := (unhide HK).fin (by omega) (by omega) hb (unhide P2) ((unhide HK).skip2 (by omega) (unhide P2).1 (Or.inl (unhide HE)))
            exact ⟨rfl, d2, S3.out, p1, p2⟩
        · have k1 : ¬ (s : Int) < (m : Int) := by omega
          have k2 : (a : Int) < (s : Int) := by omega
          have k3 : ¬ (s : Int) < (mid : Int) := by omega
          have k4 : ¬ (mid : Int) < (e : Int) := by omega
          have HK := hide (unhide HN0 (Or.inl q1))
          have HE : Hid (e = mid) := q2
          have HE2 : Hid (s = mid) := q3
          clear q1 q2 q3 HCUT HN0
          go_wp2_with fail
          go_end0
          have P2 := (unhide HK).skip (Or.inr (unhide HE2))
          obtain ⟨p1, p2⟩ := (unhide HK).fin (by omega) (by omega) hb P2 ((unhide HK).skip2 (by omega) P2.1 (Or.inl (unhide HE)))
          exact ⟨rfl, d, S1.out, p1, p2⟩
        · have k1 : (s : Int) < (m : Int) := by omega
          have k1b : ¬ (m : Int) < (e : Int) := by omega
          have k2 : (a : Int) < (s : Int) := by omega
          have k3 : ¬ (s : Int) < (mid : Int) := by omega
          have k4 : (mid : Int) < (e : Int) := by omega
          have k5 : (e : Int) < (b : Int) := by omega
          have HK := hide (unhide HN0 (Or.inr q3.symm))
          have HE2 : Hid (s = mid) := q2
          clear q1 q2 q3 HCUT HN0
          have P2 := hide ((unhide HK).skip (Or.inr (unhide HE2)))
          go_wp2_with fail
          refine (unhide CM _ d (rfl) S1.out mid e b (by omega) (by omega) (by omega) (by omega) ((unhide HK).high (by omega) (unhide P2).1).1 ((unhide HK).high (by omega) (unhide P2).1).2.1 ((unhide HK).high (by omega) (unhide P2).1).2.2).mono ?_
          rintro e' w3 ⟨rfl, d3, S5, p1, p2⟩
          have S3 : Aside (SWK enc k w0 blk off d3 w3) := S5
          have P3 : Hid (PermIn mid b d d3 ∧ SI mid b d3) := ⟨p1, p2⟩
          clear S1 S5 p1 p2
          go_wp2_with fail
          go_end0
          obtain ⟨p1, p2⟩ := (unhide HK).fin (by omega) (by omega) hb (unhide P2) (unhide P3)
          exact ⟨rfl, d3, S3.out, p1, p2⟩
        · have k1 : (s : Int) < (m : Int) := by omega
          have k1b : (m : Int) < (e : Int) := by omega
          have k3 : (s : Int) < (mid : Int) := by omega
          have k4 : (mid : Int) < (e : Int) := by omega
          clear HN0
          go_wp2_with fail
          refine (unhide CR _ S1.out s m e (by omega) (by omega) (by omega) _).mono ?_
          rintro e' w1 ⟨rfl, d1, S2, p1, p2⟩
          have HK := hide (unhide HCUT d1 (permIn_mono _ _ s e a b (by omega) (by omega) (by omega) p1) p2)
          have HS1 : Hid (d1.size = d.size) := p1.1
          have SX : Aside (SWK enc k w0 blk off d1 w1) := S2
          clear S1 S2 p1 p2 HCUT
          rcases q5 with ⟨q6, q7⟩ | ⟨q6, q7⟩ | ⟨q6, q7⟩ | ⟨q6, q7⟩
          · have k2 : (a : Int) < (s : Int) := by omega
            have k5 : (e : Int) < (b : Int) := by omega
            go_wp2_with fail
            refine (unhide CM _ d1 (unhide HS1) SX.out a s mid (by omega) (by omega) (by omega) (by omega) (unhide HK).sa (unhide HK).sb (unhide HK).ca).mono ?_
            rintro e' w2 ⟨rfl, d2, S2, p1, p2⟩
            have S3 : Aside (SWK enc k w0 blk off d2 w2) := S2
            have P2 : Hid (PermIn a mid d1 d2 ∧ SI a mid d2) := ⟨p1, p2⟩
            clear SX S2 p1 p2
            go_wp2_with fail
            refine (unhide CM _ d2 ((unhide P2).1.1.trans (unhide HS1)) S3.out mid e b (by omega) (by omega) (by omega) (by omega) ((unhide HK).high (by omega) (unhide P2).1).1 ((unhide HK).high (by omega) (unhide P2).1).2.1 ((unhide HK).high (by omega) (unhide P2).1).2.2).mono ?_
            rintro e' w3 ⟨rfl, d3, S5, p1, p2⟩
            have S4 : Aside (SWK enc k w0 blk off d3 w3) := S5
            have P3 : Hid (PermIn mid b d2 d3 ∧ SI mid b d3) := ⟨p1, p2⟩
            clear S3 S5 p1 p2
            go_wp2_with fail
            go_end0
            obtain ⟨p1, p2⟩ := (unhide HK).fin (by omega) (by omega) hb (unhide P2) (unhide P3)
            exact ⟨rfl, d3, S4.out, p1, p2⟩
          · have k2 : (a : Int) < (s : Int) := by omega
            have k5 : ¬ (e : Int) < (b : Int) := by omega
            have HE : Hid (e = b) := q7
            clear q7
            go_wp2_with fail
            refine (unhide CM _ d1 (unhide HS1) SX.out a s mid (by omega) (by omega) (by omega) (by omega) (unhide HK).sa (unhide HK).sb (unhide HK).ca).mono ?_
            rintro e' w2 ⟨rfl, d2, S2, p1, p2⟩
            have S3 : Aside (SWK enc k w0 blk off d2 w2) := S2
            have P2 : Hid (PermIn a mid d1 d2 ∧ SI a mid d2) := ⟨p1, p2⟩
            clear SX S2 p1 p2
            go_wp2_with fail
            all_goals
              go_end0
              obtain ⟨p1, p2⟩ := (unhide HK).fin (by omega) (by omega) hb (unhide P2) ((unhide HK).skip2 (by omega) (unhide P2).1 (Or.inr (unhide HE)))
              exact ⟨rfl, d2, S3.out, p1, p2⟩
          · have k2 : ¬ (a : Int) < (s : Int) := by omega
            have k5 : (e : Int) < (b : Int) := by omega
            have P2 := hide ((unhide HK).skip (Or.inl q6.symm))
            clear q6
            go_wp2_with fail
            all_goals
              refine (unhide CM _ d1 (unhide HS1) SX.out mid e b (by omega) (by omega) (by omega) (by omega) ((unhide HK).high (by omega) (unhide P2).1).1 ((unhide HK).high (by omega) (unhide P2).1).2.1 ((unhide HK).high (by omega) (unhide P2).1).2.2).mono ?_
              rintro e' w3 ⟨rfl, d3, S5, p1, p2⟩
              have S3 : Aside (SWK enc k w0 blk off d3 w3) := S5
              have P3 : Hid (PermIn mid b d1 d3 ∧ SI mid b d3) := ⟨p1, p2⟩
              clear SX S5 p1 p2
              go_wp2_with fail
              go_end0
              obtain ⟨p1, p2⟩ := (unhide HK).fin (by omega) (by omega) hb (unhide P2) (unhide P3)
              exact ⟨rfl, d3, S3.out, p1, p2⟩
          · have k2 : ¬ (a : Int) < (s : Int) := by omega
            have k5 : ¬ (e : Int) < (b : Int) := by omega
            have P2 := hide ((unhide HK).skip (Or.inl q6.symm))
            have HE : Hid (e = b) := q7
            clear q6 q7
            go_wp2_with fail
            go_end0
            obtain ⟨p1, p2⟩ := (unhide HK).fin (by omega) (by omega) hb (unhide P2) ((unhide HK).skip2 (by omega) (unhide P2).1 (Or.inr (unhide HE)))
            exact ⟨rfl, d1, SX.out, p1, p2⟩
  · have hAz : ¬ (mid : Int) < (m : Int) := by omega
    go_enter Tryz.func220, Tryz.ntmps220
    go_wp2_with fail
    go_loopw [20, 21, 23] (fun c1 c2 c3 wr => ∃ s r : Nat, c1 = .int .i64 s ∧ c2 = .int .i64 r ∧ a ≤ s ∧ s ≤ r ∧ r ≤ m ∧ Aside (SWK enc k w0 blk off d wr) ∧ Aside (∀ c, a ≤ c → c < s → lxB d[P - c]! d[c]! = false) ∧ Aside (∀ c, r ≤ c → c < m → lxB d[P - c]! d[c]! = true)) (fun c1 c2 c3 _ => (intOf c2).toNat - (intOf c1).toNat)
    case atStart => exact ⟨a, m, rfl, rfl, Nat.le_refl _, by omega, Nat.le_refl _, S0, fun t h1 h2 => by omega, fun t h1 h2 => by omega⟩
    case round =>
      clear S0
      obtain ⟨s, r, rfl, rfl, h1, h2, h3, S1, HL, HH⟩ := hrel
      by_cases hlt : s < r
      · have hltz : (s : Int) < (r : Int) := by omega
        obtain ⟨c, hh⟩ : ∃ c : Nat, ((s : Int) + (r : Int)) / 2 = (c : Int) := ⟨(s + r) / 2, by omega⟩
        have hih : s ≤ c := by omega
        have hhj : c < r := by omega
        go_wp2_with fail
        clear hh
        obtain ⟨u, hu⟩ : ∃ u : Nat, (P : Int) - (c : Int) = (u : Int) := ⟨P - c, by omega⟩
        have hu2 : u = P - c := by omega
        have wu : IntKind.i64.wrap (u : Int) = (u : Int) := by rw [IntKind.wrap_i64]; omega
        have bc : (c : Int) < (d.size : Int) := by omega
        have bu : (u : Int) < (d.size : Int) := by omega
        have lh := S1.out.ld HZ.out.R (by have := unhide HS; omega) Tryz.prog c (by omega)
        have la := S1.out.ld HZ.out.R (by have := unhide HS; omega) Tryz.prog u (by omega)
        have hcg := S1.out.cmp HZ.out.C (by have := unhide HS; omega) d[u]! d[c]!
        have SG : Aside (∀ n os, SWK enc k w0 blk off d (grow (wr.drewN n) os)) := fun n os => S1.out.grown n os
        have HTG : Hid (ltT d[u]! d[c]! = lxB d[P - c]! d[c]!) := by
          show _ = _
          rw [ltT_lx (HCR.out c u (by omega) (by omega) (by omega) (by omega)), hu2]
        clear S1 hu2
        obtain ⟨xc, hxc⟩ : ∃ x, d[c]! = x := ⟨_, rfl⟩
        obtain ⟨xu, hxu⟩ : ∃ x, d[u]! = x := ⟨_, rfl⟩
        rw [hxc, hxu] at hcg
        rw [hxc] at lh
        rw [hxu] at la
        have HT2 : Hid (ltT xu xc = lxB d[P - c]! d[c]!) := by
          have := unhide HTG
          rw [hxu] at this
          rw [← this, hxc]; rfl
        clear hxc hxu HTG
        by_cases hlv : cfT xu xc < 0
        · have HLT := hide (ltT_pos hlv)
          go_wp2_with fail
          go_quiet_grown (first | (go_at_fn g; refine Calls.grown_of (hcg _ _)))
          go_wp2_with fail
          go_roundw
          case rel =>
            refine ⟨s, c, rfl, by go_num, h1, hih, by omega, SG.out nq osq, HL, fun t ht1 ht2 => ?_⟩
            have e := unhide HT2
            rw [unhide HLT] at e
            cases ht : lxB d[P - t]! d[t]! with
            | true => rfl
            | false =>
              rw [cut_mono HSL.out HSR.out (by omega) ht1 (by omega) (by omega) (by omega) (by omega) ht] at e
              simp at e
          case measure => simp [intOf]; omega
        · have HLT := hide (ltT_neg hlv)
          obtain ⟨v, hv⟩ : ∃ v, cfT xu xc = v := ⟨_, rfl⟩
          rw [hv] at hcg hlv
          clear hv
          have hvn : (!decide (v < 0)) = true := by rw [decide_eq_false hlv]; rfl
          clear hlv
          go_wp2_with fail
          go_quiet_grown (first | (go_at_fn g; refine Calls.grown_of (hcg _ _)))
          go_wp2_with fail
          go_roundw
          case rel =>
            refine ⟨c + 1, r, by go_num, rfl, by omega, by omega, h3, SG.out nq osq, fun t ht1 ht2 => ?_, HH⟩
            have e := unhide HT2
            rw [unhide HLT] at e
            exact cut_mono HSL.out HSR.out (by omega) (show t ≤ c by omega) (by omega) (by omega) (by omega) (by omega) e.symm
          case measure => simp [intOf]; omega
      · obtain rfl : s = r := by omega
        obtain ⟨e, he⟩ : ∃ e : Nat, (N : Int) - (s : Int) = (e : Int) := ⟨N - s, by omega⟩
        have hlo : Hid (∀ x y, a ≤ x → x < s → e ≤ y → y < b → lxB d[y]! d[x]! = false) := search_lo (lo := a) HSL.out HSR.out (by omega) h1 (by omega) (by omega) (by omega) (p := P) (by omega) (by omega) HL.out
        have hhi : Hid (∀ x y, s ≤ x → x < m → m ≤ y → y < e → lxB d[y]! d[x]! = true) := search_hi (r0 := m) HSL.out HSR.out (by omega) h3 (by omega) (by omega) (by omega) (p := P) (by omega) (by omega) HH.out
        have HCUT : Hid (∀ d1 : Array Tg, PermIn a b d d1 → (∀ t, d1[t]! = rotF (gt d) s m e t) → CutOk a s mid e b d d1) := fun d1 hp hd => cut_ok (by omega) (by omega) (by omega) (by omega) (by omega) HSL.out HSR.out HCR.out hp hd (unhide hlo) (unhide hhi)
        have HN0 : Hid (s = m ∨ m = e → CutOk a s mid e b d d) := fun h => unhide HCUT d (permIn_refl _ _ _) (fun t => rot_none d (by omega) (by omega) h t)
        have g1 : (s : Int) ≤ m ∧ (m : Int) ≤ e ∧ (s : Int) ≤ mid ∧ (mid : Int) ≤ e ∧ (e : Int) ≤ b ∧ (a : Int) ≤ s ∧ (a : Int) < m ∧ (m : Int) < b ∧ (a : Int) < mid ∧ (mid : Int) < b := by omega
        have g2 : (s = m ∧ e = mid ∧ s < mid) ∨ (s = m ∧ e = mid ∧ s = mid) ∨ (s < m ∧ s = mid ∧ e = m) ∨ ((s < m ∧ m < e ∧ s < mid ∧ mid < e) ∧ ((a < s ∧ e < b) ∨ (a < s ∧ e = b) ∨ (a = s ∧ e < b) ∨ (a = s ∧ e = b))) := by omega
        clear hlo hhi HL HH
        rcases g2 with ⟨q1, q2, q3⟩ | ⟨q1, q2, q3⟩ | ⟨q1, q2, q3⟩ | ⟨⟨q1, q2, q3, q4⟩, q5⟩
        · have k1 : ¬ (s : Int) < (m : Int) := by omega
          have k2 : (a : Int) < (s : Int) := by omega
          have k3 : (s : Int) < (mid : Int) := by omega
          have k4 : ¬ (mid : Int) < (e : Int) := by omega
          have HK := hide (unhide HN0 (Or.inl q1))
          have HE : Hid (e = mid) := q2
          clear q1 q2 q3 HCUT HN0
          go_wp2_with fail
          refine (unhide CM _ d rfl S1.out a s mid (by omega) (by omega) (by omega) (by omega) (unhide HK).sa (unhide HK).sb (unhide HK).ca).mono ?_
          rintro e' w2 ⟨rfl, d2, S2, p1, p2⟩
          have S3 : Aside (SWK enc k w0 blk off d2 w2) := S2
          have P2 : Hid (PermIn a mid d d2 ∧ SI a mid d2) := ⟨p1, p2⟩
          clear S1 S2 p1 p2
          go_wp2_with fail
          all_goals
            go_end0
            obtain ⟨p1, p2⟩ := (unhide HK).fin (by omega) (by omega) hb (unhide P2) ((unhide HK).skip2 (by omega) (unhide P2).1 (Or.inl (unhide HE)))
            exact ⟨rfl, d2, S3.out, p1, p2⟩
        · have k1 : ¬ (s : Int) < (m : Int) := by omega
          have k2 : (a : Int) < (s : Int) := by omega
          have k3 : ¬ (s : Int) < (mid : Int) := by omega
          have k4 : ¬ (mid : Int) < (e : Int) := by omega
          have HK := hide (unhide HN0 (Or.inl q1))
          have HE : Hid (e = mid) := q2
          have HE2 : Hid (s = mid) := q3
          clear q1 q2 q3 HCUT HN0
          go_wp2_with fail
          go_end0
          have P2 := (unhide HK).skip (Or.inr (unhide HE2))
          obtain ⟨p1, p2⟩ := (unhide HK).fin (by omega) (by omega) hb P2 ((unhide HK).skip2 (by omega) P2.1 (Or.inl (unhide HE)))
          exact ⟨rfl, d, S1.out, p1, p2⟩
        · have k1 : (s : Int) < (m : Int) := by omega
          have k1b : ¬ (m : Int) < (e : Int) := by omega
          have k2 : (a : Int) < (s : Int) := by omega
          have k3 : ¬ (s : Int) < (mid : Int) := by omega
          have k4 : (mid : Int) < (e : Int) := by omega
          have k5 : (e : Int) < (b : Int) := by omega
          have HK := hide (unhide HN0 (Or.inr q3.symm))
          have HE2 : Hid (s = mid) := q2
          clear q1 q2 q3 HCUT HN0
          have P2 := hide ((unhide HK).skip (Or.inr (unhide HE2)))
          go_wp2_with fail
          refine (unhide CM _ d (rfl) S1.out mid e b (by omega) (by omega) (by omega) (by omega) ((unhide HK).high (by omega) (unhide P2).1).1 ((unhide HK).high (by omega) (unhide P2).1).2.1 ((unhide HK).high (by omega) (unhide P2).1).2.2).mono ?_
          rintro e' w3 ⟨rfl, d3, S5, p1, p2⟩
          have S3 : Aside (SWK enc k w0 blk off d3 w3) := S5
          have P3 : Hid (PermIn mid b d d3 ∧ SI mid b d3) := ⟨p1, p2⟩
          clear S1 S5 p1 p2
          go_wp2_with fail
          go_end0
          obtain ⟨p1, p2⟩ := (unhide HK).fin (by omega) (by omega) hb (unhide P2) (unhide P3)
          exact ⟨rfl, d3, S3.out, p1, p2⟩
        · have k1 : (s : Int) < (m : Int) := by omega
          have k1b : (m : Int) < (e : Int) := by omega
          have k3 : (s : Int) < (mid : Int) := by omega
          have k4 : (mid : Int) < (e : Int) := by omega
          clear HN0
          go_wp2_with fail
          refine (unhide CR _ S1.out s m e (by omega) (by omega) (by omega) _).mono ?_
          rintro e' w1 ⟨rfl, d1, S2, p1, p2⟩
          have HK := hide (unhide HCUT d1 (permIn_mono _ _ s e a b (by omega) (by omega) (by omega) p1) p2)
          have HS1 : Hid (d1.size = d.size) := p1.1
          have SX : Aside (SWK enc k w0 blk off d1 w1) := S2
          clear S1 S2 p1 p2 HCUT
          rcases q5 with ⟨q6, q7⟩ | ⟨q6, q7⟩ | ⟨q6, q7⟩ | ⟨q6, q7⟩
          · have k2 : (a : Int) < (s : Int) := by omega
            have k5 : (e : Int) < (b : Int) := by omega
            go_wp2_with fail
            refine (unhide CM _ d1 (unhide HS1) SX.out a s mid (by omega) (by omega) (by omega) (by omega) (unhide HK).sa (unhide HK).sb (unhide HK).ca).mono ?_
            rintro e' w2 ⟨rfl, d2, S2, p1, p2⟩
            have S3 : Aside (SWK enc k w0 blk off d2 w2) := S2
            have P2 : Hid (PermIn a mid d1 d2 ∧ SI a mid d2) := ⟨p1, p2⟩
            clear SX S2 p1 p2
            go_wp2_with fail
            refine (unhide CM _ d2 ((unhide P2).1.1.trans (unhide HS1)) S3.out mid e b (by omega) (by omega) (by omega) (by omega) ((unhide HK).high (by omega) (unhide P2).1).1 ((unhide HK).high (by omega) (unhide P2).1).2.1 ((unhide HK).high (by omega) (unhide P2).1).2.2).mono ?_
            rintro e' w3 ⟨rfl, d3, S5, p1, p2⟩
            have S4 : Aside (SWK enc k w0 blk off d3 w3) := S5
            have P3 : Hid (PermIn mid b d2 d3 ∧ SI mid b d3) := ⟨p1, p2⟩
            clear S3 S5 p1 p2
            go_wp2_with fail
            go_end0
            obtain ⟨p1, p2⟩ := (unhide HK).fin (by omega) (by omega) hb (unhide P2) (unhide P3)
            exact ⟨rfl, d3, S4.out, p1, p2⟩
          · have k2 : (a : Int) < (s : Int) := by omega
            have k5 : ¬ (e : Int) < (b : Int) := by omega
            have HE : Hid (e = b) := q7
            clear q7
            go_wp2_with fail
            refine (unhide CM _ d1 (unhide HS1) SX.out a s mid (by omega) (by omega) (by omega) (by omega) (unhide HK).sa (unhide HK).sb (unhide HK).ca).mono ?_
            rintro e' w2 ⟨rfl, d2, S2, p1, p2⟩
            have S3 : Aside (SWK enc k w0 blk off d2 w2) := S2
            have P2 : Hid (PermIn a mid d1 d2 ∧ SI a mid d2) := ⟨p1, p2⟩
            clear SX S2 p1 p2
            go_wp2_with fail
            all_goals
              go_end0
              obtain ⟨p1, p2⟩ := (unhide HK).fin (by omega) (by omega) hb (unhide P2) ((unhide HK).skip2 (by omega) (unhide P2).1 (Or.inr (unhide HE)))
              exact ⟨rfl, d2, S3.out, p1, p2⟩
          · have k2 : ¬ (a : Int) < (s : Int) := by omega
            have k5 : (e : Int) < (b : Int) := by omega
            have P2 := hide ((unhide HK).skip (Or.inl q6.symm))
            clear q6
            go_wp2_with fail
            all_goals
              refine (unhide CM _ d1 (unhide HS1) SX.out mid e b (by omega) (by omega) (by omega) (by omega) ((unhide HK).high (by omega) (unhide P2).1).1 ((unhide HK).high (by omega) (unhide P2).1).2.1 ((unhide HK).high (by omega) (unhide P2).1).2.2).mono ?_
              rintro e' w3 ⟨rfl, d3, S5, p1, p2⟩
              have S3 : Aside (SWK enc k w0 blk off d3 w3) := S5
              have P3 : Hid (PermIn mid b d1 d3 ∧ SI mid b d3) := ⟨p1, p2⟩
              clear SX S5 p1 p2
              go_wp2_with fail
              go_end0
              obtain ⟨p1, p2⟩ := (unhide HK).fin (by omega) (by omega) hb (unhide P2) (unhide P3)
              exact ⟨rfl, d3, S3.out, p1, p2⟩
          · have k2 : ¬ (a : Int) < (s : Int) := by omega
            have k5 : ¬ (e : Int) < (b : Int) := by omega
            have P2 := hide ((unhide HK).skip (Or.inl q6.symm))
            have HE : Hid (e = b) := q7
            clear q6 q7
            go_wp2_with fail
            go_end0
            obtain ⟨p1, p2⟩ := (unhide HK).fin (by omega) (by omega) hb (unhide P2) ((unhide HK).skip2 (by omega) (unhide P2).1 (Or.inr (unhide HE)))
            exact ⟨rfl, d1, SX.out, p1, p2⟩

theorem merge_k {k off : Nat} {enc : Tg → List Value} {w0 : World} {blk : Nat} {d0 : Array Tg} {g : Nat} (Z : Srt k off enc w0 blk d0 g) (cap : Nat) : ∀ (n : Nat) (w : World) (d : Array Tg), d.size = d0.size → SWK enc k w0 blk off d w → ∀ a m b : Nat, b - a ≤ n → a < m → m < b → b ≤ d.size → SI a m d → SI m b d → Cross a m b d → Merges k off enc w0 blk g cap d a m b w
  | 0, w, d, hs, S, a, m, b, hn, ham, hmb, hb, hl, hr, hc => by omega
  | n + 1, w, d, hs, S, a, m, b, hn, ham, hmb, hb, hl, hr, hc => by
    by_cases h1 : m = a + 1
    · exact merge_one Z w d hs S a m b h1 hmb hb cap hr hc
    · by_cases h2 : b = m + 1
      · exact merge_last Z w d hs S a m b (by omega) h2 hb cap hl hc
      · exact merge_gen Z w d hs S a m b (by omega) (by omega) hb cap hl hr hc (fun w d1 hd S x y z q1 q2 q3 q4 q5 q6 q7 => merge_k Z cap n w d1 (hd.trans hs) S x y z (by omega) q1 q2 (by omega) q5 q6 q7)

end Go.Proofs.YtiafhcgaikapcaaGreat


/-
  slices.SortStableFunc at rows of records (fewer than 40): they are sorted by number, those with the same number in the order in which they stood.
-/
namespace Go.Proofs.YtiafhcgaikapcaaGreat
open Go.ChangeShapes Go.WideShapes Go.ChangeAt Go.RowKit Go.Joins
open Go.Shelf Go.Lib Go.Sort
set_option maxRecDepth 100000
set_option linter.unusedVariables false
set_option linter.unusedSimpArgs false

theorem insSort_nil (w : World) (fv : Value) : Calls Tryz.prog 219 #[.slice none 0 0, .int .i64 0, .int .i64 0, fv] w fun e w' => e = .returned (.tuple #[]) ∧ w' = w := by
  go_enter Tryz.func219, Tryz.ntmps219
  go_wp2_with fail
  go_loopw [8] (fun c wr => c = .int .i64 1 ∧ wr = w) (fun _ _ => 0)
  case atStart => exact ⟨by go_num, rfl⟩
  case round =>
    obtain ⟨rfl, rfl⟩ := hrel
    go_wp2_with fail
    go_end0
    exact ⟨rfl, rfl⟩
theorem sort_nil (w : World) (fv : Value) : Calls Tryz.prog 195 #[.slice none 0 0, fv] w fun e w' => e = .returned (.tuple #[]) ∧ w' = w := by
  have C : Hid (∀ w : World, Calls Tryz.prog 212 #[.slice none 0 0, .int .i64 0, fv] w fun e w' => e = .returned (.tuple #[]) ∧ w' = w) := fun w => by
    go_enter Tryz.func212, Tryz.ntmps212
    go_wp2_with fail
    go_loopw [7, 8] (fun c d wr => c = .int .i64 0 ∧ d = .int .i64 20 ∧ wr = w) (fun _ _ _ => 0)
    case atStart => exact ⟨rfl, rfl, rfl⟩
    case round =>
      obtain ⟨rfl, rfl, rfl⟩ := hrel
      go_wp2_with fail
      refine (insSort_nil _ _).mono ?_
      rintro e w1 ⟨rfl, rfl⟩
      go_wp2_with fail
      go_loopw [6, 7, 8, 9] (fun c _ _ _ wr => c = .int .i64 20 ∧ wr = w1) (fun _ _ _ _ _ => 0)
      case atStart => exact ⟨rfl, rfl⟩
      case round =>
        obtain ⟨rfl, rfl⟩ := hrel
        go_wp2_with fail
        go_end0
        exact ⟨rfl, rfl⟩
  go_enter Tryz.func195, Tryz.ntmps195
  go_wp2_with fail
  refine (unhide C _).mono ?_
  rintro e w1 ⟨rfl, rfl⟩
  go_wp2_with fail
  go_end0
  exact ⟨rfl, rfl⟩

set_option maxHeartbeats 4000000 in
theorem stable_small {k off : Nat} {enc : Tg → List Value} {w0 : World} {blk : Nat} {d0 : Array Tg} {g : Nat} (Z : Srt k off enc w0 blk d0 g) (w : World) (d : Array Tg) (hs : d.size = d0.size) (S : SWK enc k w0 blk off d w) (hn : d.size < 20) (cap : Nat) (hr : Rise 0 d.size d) :
    Calls Tryz.prog 212 #[.slice (some ⟨blk, off, none⟩) d.size cap, .int .i64 d.size, .func (.func g) #[] #[]] w fun e w' => e = .returned (.tuple #[]) ∧ ∃ d', SWK enc k w0 blk off d' w' ∧ PermIn 0 d.size d d' ∧ SI 0 d.size d' := by
  have CI : Hid (∀ w : World, SWK enc k w0 blk off d w → Calls Tryz.prog 219 #[.slice (some ⟨blk, off, none⟩) d.size cap, .int .i64 0, .int .i64 d.size, .func (.func g) #[] #[]] w fun e w' => e = .returned (.tuple #[]) ∧ SWK enc k w0 blk off (Sort.insertionSort ltT d 0 d.size) w') := fun w S => insSort_k Z w d hs S 0 d.size (Nat.zero_le _) (Nat.le_refl _) cap
  have HI := hide (insT d 0 d.size (Nat.zero_le _) (Nat.le_refl _) hr)
  have S0 : Aside (SWK enc k w0 blk off d w) := S
  clear S Z hs hr
  have hz : ¬ (20 : Int) ≤ (d.size : Int) := by omega
  have hz2 : ¬ (20 : Int) < (d.size : Int) := by omega
  go_enter Tryz.func212, Tryz.ntmps212
  go_wp2_with fail
  go_loopw [7, 8] (fun c e wr => c = .int .i64 0 ∧ e = .int .i64 20 ∧ wr = w) (fun _ _ _ => 0)
  case atStart => exact ⟨rfl, rfl, rfl⟩
  case round =>
    obtain ⟨rfl, rfl, rfl⟩ := hrel
    go_wp2_with fail
    refine (unhide CI _ S0.out).mono ?_
    rintro e w1 ⟨rfl, S1⟩
    have S2 : Aside (SWK enc k w0 blk off (Sort.insertionSort ltT d 0 d.size) w1) := S1
    clear S0 S1 CI
    go_wp2_with fail
    go_loopw [6, 7, 8, 9] (fun c _ _ _ wr => c = .int .i64 20 ∧ wr = w1) (fun _ _ _ _ _ => 0)
    case atStart => exact ⟨rfl, rfl⟩
    case round =>
      obtain ⟨rfl, rfl⟩ := hrel
      go_wp2_with fail
      go_end0
      exact ⟨rfl, _, S2.out, (unhide HI).1, (unhide HI).2⟩

/-- Two blocks, each sorted, the tags of the first below those of the second. -/
theorem two_blocks {d : Array Tg} (h20 : 20 ≤ d.size) (hr : Rise 0 d.size d) {d1 d2 : Array Tg} (e1 : d1 = Sort.insertionSort ltT d 0 20) (e2 : d2 = Sort.insertionSort ltT d1 20 d.size) :
    d1.size = d.size ∧ d2.size = d.size ∧ PermIn 0 d.size d d2 ∧ SI 0 20 d2 ∧ SI 20 d.size d2 ∧ Cross 0 20 d.size d2 := by
  obtain ⟨p1, s1⟩ := insT d 0 20 (by omega) h20 (fun k m h1 h2 h3 => hr k m h1 h2 (by omega))
  rw [← e1] at p1 s1
  have z1 := p1.1
  have r1 : Rise 20 d.size d1 := fun k m h1 h2 h3 => by
    rw [p1.2.1 k (Or.inr h1), p1.2.1 m (Or.inr (by omega))]
    exact hr k m (Nat.zero_le _) h2 h3
  obtain ⟨p2, s2⟩ := insT d1 20 d.size h20 (by omega) r1
  rw [← e2] at p2 s2
  refine ⟨z1, p2.1.trans z1, permIn_trans _ _ _ _ _ (permIn_mono _ _ 0 20 0 d.size (Nat.le_refl _) h20 (Nat.le_refl _) p1) (permIn_mono _ _ 20 d.size 0 d.size (Nat.zero_le _) (Nat.le_refl _) (by omega) p2), fun i j h1 h2 h3 => ?_, s2, fun x y hx1 hx2 hy1 hy2 => ?_⟩
  · rw [p2.2.1 i (Or.inl (by omega)), p2.2.1 j (Or.inl h3)]
    exact s1 i j h1 h2 h3
  · rw [p2.2.1 x (Or.inl hx2)]
    refine permIn_all d1 d2 20 d.size (fun v => (d1[x]!).2 < v.2) (by omega) p2 (fun y hy1 hy2 => ?_) y hy1 hy2
    rw [p1.2.1 y (Or.inr hy1)]
    exact permIn_all d d1 0 20 (fun v => v.2 < (d[y]!).2) h20 p1 (fun x hx1 hx2 => hr x y hx1 (by omega) hy2) x hx1 hx2

set_option maxHeartbeats 4000000 in
theorem stable_two {k off : Nat} {enc : Tg → List Value} {w0 : World} {blk : Nat} {d0 : Array Tg} {g : Nat} (Z : Srt k off enc w0 blk d0 g) (w : World) (d : Array Tg) (hs : d.size = d0.size) (S : SWK enc k w0 blk off d w) (hn0 : 20 ≤ d.size) (hn : d.size < 40) (cap : Nat) (hr : Rise 0 d.size d) :
    Calls Tryz.prog 212 #[.slice (some ⟨blk, off, none⟩) d.size cap, .int .i64 d.size, .func (.func g) #[] #[]] w fun e w' => e = .returned (.tuple #[]) ∧ ∃ d', SWK enc k w0 blk off d' w' ∧ PermIn 0 d.size d d' ∧ SI 0 d.size d' := by
  obtain ⟨d1, e1⟩ : ∃ d1, d1 = Sort.insertionSort ltT d 0 20 := ⟨_, rfl⟩
  obtain ⟨d2, e2⟩ : ∃ d2, d2 = Sort.insertionSort ltT d1 20 d.size := ⟨_, rfl⟩
  obtain ⟨z1, z2, p2, sa, sb, cr⟩ := two_blocks hn0 hr e1 e2
  have C1 : Hid (∀ w : World, SWK enc k w0 blk off d w → Calls Tryz.prog 219 #[.slice (some ⟨blk, off, none⟩) d.size cap, .int .i64 0, .int .i64 20, .func (.func g) #[] #[]] w fun e w' => e = .returned (.tuple #[]) ∧ SWK enc k w0 blk off d1 w') := fun w S => by rw [e1]; exact insSort_k Z w d hs S 0 20 (Nat.zero_le _) hn0 cap
  have C2 : Hid (∀ w : World, SWK enc k w0 blk off d1 w → Calls Tryz.prog 219 #[.slice (some ⟨blk, off, none⟩) d.size cap, .int .i64 20, .int .i64 d.size, .func (.func g) #[] #[]] w fun e w' => e = .returned (.tuple #[]) ∧ SWK enc k w0 blk off d2 w') := fun w S => by
    have := insSort_k Z w d1 (z1.trans hs) S 20 d.size hn0 (by omega) cap
    rw [← e2, z1] at this; exact this
  have CM : Hid (20 < d.size → ∀ w : World, SWK enc k w0 blk off d2 w → Calls Tryz.prog 220 #[.slice (some ⟨blk, off, none⟩) d.size cap, .int .i64 0, .int .i64 20, .int .i64 d.size, .func (.func g) #[] #[]] w fun e w' => e = .returned (.tuple #[]) ∧ ∃ d', SWK enc k w0 blk off d' w' ∧ PermIn 0 d.size d d' ∧ SI 0 d.size d') := fun h w S => by
    have := merge_k Z cap d.size w d2 (z2.trans hs) S 0 20 d.size (by omega) (by omega) h (by omega) sa sb cr
    unfold Merges at this
    rw [z2] at this
    exact this.mono fun e w' ⟨he, d', q1, q2, q3⟩ => ⟨he, d', q1, permIn_trans _ _ _ _ _ p2 q2, q3⟩
  have HE : Hid (d.size = 20 → PermIn 0 d.size d d2 ∧ SI 0 d.size d2) := fun h => ⟨p2, by rw [h]; exact sa⟩
  have S0 : Aside (SWK enc k w0 blk off d w) := S
  clear S Z hs hr z1 z2 p2 sa sb cr e1 e2
  have hz : (20 : Int) ≤ (d.size : Int) := by omega
  have hz2 : ¬ (40 : Int) ≤ (d.size : Int) := by omega
  have hz3 : ¬ (40 : Int) < (d.size : Int) := by omega
  go_enter Tryz.func212, Tryz.ntmps212
  go_wp2_with fail
  go_loopw [7, 8] (fun c e wr => (c = .int .i64 0 ∧ e = .int .i64 20 ∧ Aside (SWK enc k w0 blk off d wr)) ∨ (c = .int .i64 20 ∧ e = .int .i64 40 ∧ Aside (SWK enc k w0 blk off d1 wr))) (fun _ e _ => 40 - (intOf e).toNat)
  case atStart => exact Or.inl ⟨rfl, rfl, S0⟩
  case round =>
    clear S0
    rcases hrel with ⟨rfl, rfl, S1⟩ | ⟨rfl, rfl, S1⟩
    · clear C2 CM HE
      go_wp2_with fail
      refine (unhide C1 _ S1.out).mono ?_
      rintro e w1 ⟨rfl, S2⟩
      have S3 : Aside (SWK enc k w0 blk off d1 w1) := S2
      clear S1 S2
      go_wp2_with fail
      go_roundw
      case rel => exact Or.inr ⟨rfl, rfl, S3⟩
      case measure => simp [intOf]
    · clear C1
      go_wp2_with fail
      refine (unhide C2 _ S1.out).mono ?_
      rintro e w1 ⟨rfl, S2⟩
      have S3 : Aside (SWK enc k w0 blk off d2 w1) := S2
      clear S1 S2 C2
      go_wp2_with fail
      go_loopw [6, 7, 8, 9] (fun c _ _ _ wr => (c = .int .i64 20 ∧ Aside (SWK enc k w0 blk off d2 wr)) ∨ (c = .int .i64 40 ∧ Aside (∃ d', SWK enc k w0 blk off d' wr ∧ PermIn 0 d.size d d' ∧ SI 0 d.size d'))) (fun c _ _ _ _ => 40 - (intOf c).toNat)
      case atStart => exact Or.inl ⟨rfl, S3⟩
      case round =>
        clear S3
        rcases hrel with ⟨rfl, S4⟩ | ⟨rfl, S4⟩
        · by_cases h20 : 20 < d.size
          · have h20z : (20 : Int) < (d.size : Int) := by omega
            have C3 := hide (unhide CM h20)
            clear CM HE
            go_wp2_with fail
            go_loopw [7, 8] (fun c e wr' => c = .int .i64 0 ∧ e = .int .i64 40 ∧ wr' = wr) (fun _ _ _ => 0)
            case atStart => exact ⟨rfl, rfl, rfl⟩
            case round =>
              obtain ⟨rfl, rfl, rfl⟩ := hrel
              go_wp2_with fail
              refine (unhide C3 _ S4.out).mono ?_
              rintro e w3 ⟨rfl, S5⟩
              have S6 : Aside (∃ d', SWK enc k w0 blk off d' w3 ∧ PermIn 0 d.size d d' ∧ SI 0 d.size d') := S5
              clear S4 S5
              go_wp2_with fail
              go_roundw
              case rel => exact Or.inr ⟨rfl, S6⟩
              case measure => simp [intOf]
          · have h20z : ¬ (20 : Int) < (d.size : Int) := by omega
            have HF := hide (unhide HE (by omega))
            clear CM HE
            go_wp2_with fail
            go_end0
            exact ⟨rfl, _, S4.out, (unhide HF).1, (unhide HF).2⟩
        · go_wp2_with fail
          go_end0
          exact ⟨rfl, S4.out⟩

theorem sort_k {k off : Nat} {enc : Tg → List Value} {w0 : World} {blk : Nat} {d0 : Array Tg} {g : Nat} (Z : Srt k off enc w0 blk d0 g) (w : World) (d : Array Tg) (hs : d.size = d0.size) (S : SWK enc k w0 blk off d w) (hn : d.size < 40) (cap : Nat) (hr : Rise 0 d.size d) :
    Calls Tryz.prog 195 #[.slice (some ⟨blk, off, none⟩) d.size cap, .func (.func g) #[] #[]] w fun e w' => e = .returned (.tuple #[]) ∧ ∃ d', SWK enc k w0 blk off d' w' ∧ PermIn 0 d.size d d' ∧ SI 0 d.size d' := by
  have C : Hid (∀ w : World, SWK enc k w0 blk off d w → Calls Tryz.prog 212 #[.slice (some ⟨blk, off, none⟩) d.size cap, .int .i64 d.size, .func (.func g) #[] #[]] w fun e w' => e = .returned (.tuple #[]) ∧ ∃ d', SWK enc k w0 blk off d' w' ∧ PermIn 0 d.size d d' ∧ SI 0 d.size d') := fun w S => by
    by_cases h : d.size < 20
    · exact stable_small Z w d hs S h cap hr
    · exact stable_two Z w d hs S (by omega) hn cap hr
  have S0 : Aside (SWK enc k w0 blk off d w) := S
  clear S Z hs hr
  go_enter Tryz.func195, Tryz.ntmps195
  go_wp2_with fail
  refine (unhide C _ S0.out).mono ?_
  rintro e w1 ⟨rfl, h⟩
  have H := hide h
  clear h
  go_wp2_with fail
  go_end0
  exact ⟨rfl, unhide H⟩

end Go.Proofs.YtiafhcgaikapcaaGreat


/-
  Rows of records: in mathematics (each stands behind those that are not above it), and as cells behind a slice; what slices.SortStableFunc makes of such a row.
-/
namespace Go.Proofs.YtiafhcgaikapcaaGreat
open Go.ChangeShapes Go.WideShapes Go.ChangeAt Go.RowKit Go.Joins
open Go.Shelf Go.Lib Go.Sort
set_option maxRecDepth 10000
set_option linter.unusedVariables false
set_option linter.unusedSimpArgs false

/-! ### Each one stands behind those that are not above it -/
/-- Where one with the number q is put, from the end. -/
def insK (f : Nat → Int) (q : Int) : Nat → Nat
  | 0 => 0
  | k + 1 => if f k > q then insK f q k else k + 1
theorem insK_le (f : Nat → Int) (q : Int) : ∀ n, insK f q n ≤ n
  | 0 => Nat.le_refl _
  | k + 1 => by
    unfold insK
    split
    · have := insK_le f q k; omega
    · exact Nat.le_refl _
theorem insK_above (f : Nat → Int) (q : Int) : ∀ n j, insK f q n ≤ j → j < n → f j > q
  | 0, j, _, h => by omega
  | k + 1, j, h1, h2 => by
    unfold insK at h1
    split at h1
    · rename_i hk
      by_cases e : j = k
      · rw [e]; exact hk
      · exact insK_above f q k j h1 (by omega)
    · omega
theorem insK_below (f : Nat → Int) (q : Int) : ∀ n, 0 < insK f q n → f (insK f q n - 1) ≤ q
  | 0, h => by simp [insK] at h
  | k + 1, h => by
    unfold insK at h ⊢
    split
    · rename_i hk
      rw [if_pos hk] at h
      exact insK_below f q k h
    · rename_i hk
      simp; omega
theorem insK_congr (f g : Nat → Int) (q : Int) : ∀ n, (∀ j, j < n → f j = g j) → insK f q n = insK g q n
  | 0, _ => rfl
  | k + 1, h => by
    unfold insK
    rw [h k (by omega), insK_congr f g q k (fun j hj => h j (by omega))]
def insR (out : List Rc) (r : Rc) : List Rc := out.take (insK (fun j => (out.getD j zr).q) r.q out.length) ++ r :: out.drop (insK (fun j => (out.getD j zr).q) r.q out.length)
def sortR (l : List Rc) : List Rc := l.foldl insR []
def fT (x : Tg) : Rc := x.1
def mkT (r : Rc) (n : Nat) : Tg := (r, n)
def tz : Tg := mkT zr 0
def insTg (out : List Tg) (x : Tg) : List Tg := out.take (insK (fun j => (out.getD j tz).1.q) x.1.q out.length) ++ x :: out.drop (insK (fun j => (out.getD j tz).1.q) x.1.q out.length)
theorem insR_len (out : List Rc) (r : Rc) : (insR out r).length = out.length + 1 := by
  have := insK_le (fun j => (out.getD j zr).q) r.q out.length
  simp [insR]; omega
theorem foldl_insR_len (l : List Rc) : ∀ out, (l.foldl insR out).length = out.length + l.length := by
  induction l with
  | nil => intro out; rfl
  | cons r l ih => intro out; rw [List.foldl_cons, ih, insR_len, List.length_cons]; omega
theorem sortR_len (l : List Rc) : (sortR l).length = l.length := by
  unfold sortR; rw [foldl_insR_len]; simp
theorem sortR_snoc (l : List Rc) (r : Rc) : sortR (l ++ [r]) = insR (sortR l) r := by simp [sortR]
theorem map_insTg (out : List Tg) (x : Tg) : (insTg out x).map fT = insR (out.map fT) x.1 := by
  unfold insTg insR
  have e : insK (fun j => (out.getD j tz).1.q) x.1.q out.length = insK (fun j => ((out.map fT).getD j zr).q) x.1.q (out.map fT).length := by
    rw [List.length_map]
    refine insK_congr _ _ _ _ (fun j hj => ?_)
    simp only [List.getD_eq_getElem?_getD, List.getElem?_map, List.getElem?_eq_getElem hj, Option.map_some, Option.getD_some]
    rfl
  rw [← e, List.map_append, List.map_cons, List.map_take, List.map_drop]
  rfl
def SrtL (s : List Tg) : Prop := s.Pairwise fun a b => lxB b a = false
theorem insTg_spec (out : List Tg) (x : Tg) (hs : SrtL out) (ht : ∀ y ∈ out, y.2 < x.2) : SrtL (insTg out x) ∧ (insTg out x).Perm (x :: out) := by
  unfold insTg
  have hle := insK_le (fun j => (out.getD j tz).1.q) x.1.q out.length
  have hab := insK_above (fun j => (out.getD j tz).1.q) x.1.q out.length
  have hbe := insK_below (fun j => (out.getD j tz).1.q) x.1.q out.length
  generalize insK (fun j => (out.getD j tz).1.q) x.1.q out.length = k at *
  constructor
  · have hlow : ∀ y ∈ out.take k, y.1.q ≤ x.1.q := fun y hy => by
      obtain ⟨i, hi, rfl⟩ := List.mem_iff_getElem.1 hy
      rw [List.length_take] at hi
      rw [List.getElem_take]
      have hk := hbe (by omega)
      rw [List.getD_eq_getElem?_getD, List.getElem?_eq_getElem (by omega)] at hk
      by_cases e : i = k - 1
      · subst e; exact hk
      · have := (List.pairwise_iff_getElem.1 hs) i (k - 1) (by omega) (by omega) (by omega)
        rw [lxB_niff] at this
        simp only [Option.getD_some] at hk
        omega
    have hup : ∀ y ∈ out.drop k, x.1.q < y.1.q := fun y hy => by
      obtain ⟨i, hi, rfl⟩ := List.mem_iff_getElem.1 hy
      rw [List.length_drop] at hi
      rw [List.getElem_drop]
      have := hab (k + i) (by omega) (by omega)
      rw [List.getD_eq_getElem?_getD, List.getElem?_eq_getElem (by omega)] at this
      exact this
    unfold SrtL
    rw [List.pairwise_append]
    refine ⟨hs.sublist (List.take_sublist _ _), ?_, fun a ha b hb => ?_⟩
    · rw [List.pairwise_cons]
      refine ⟨fun b hb => ?_, hs.sublist (List.drop_sublist _ _)⟩
      have := hup b hb
      rw [lxB_niff]; omega
    · rcases List.mem_cons.1 hb with rfl | hb
      · have h1 := hlow a ha
        have h2 := ht a (List.mem_of_mem_take ha)
        rw [lxB_niff]; omega
      · have h1 := hlow a ha
        have h2 := hup b hb
        rw [lxB_niff]; omega
  · have h : out.Perm (out.take k ++ out.drop k) := by rw [List.take_append_drop]
    exact (List.perm_middle).trans ((List.Perm.cons x h).symm)
/-- Tagged by their places. -/
def tagged : List Rc → Nat → List Tg
  | [], _ => []
  | r :: l, n => (mkT r n) :: tagged l (n + 1)
theorem tagged_len : ∀ (l : List Rc) (n : Nat), (tagged l n).length = l.length
  | [], _ => rfl
  | r :: l, n => by simp [tagged, tagged_len l (n + 1)]
theorem tagged_map : ∀ (l : List Rc) (n : Nat), (tagged l n).map fT = l
  | [], _ => rfl
  | r :: l, n => by
    show fT (mkT r n) :: (tagged l (n + 1)).map fT = r :: l
    rw [tagged_map l (n + 1)]; rfl
theorem tagged_get : ∀ (l : List Rc) (n i : Nat) (h : i < l.length), (tagged l n)[i]? = some (mkT l[i] (n + i))
  | r :: l, n, 0, h => rfl
  | r :: l, n, i + 1, h => by
    show (tagged l (n + 1))[i]? = _
    rw [tagged_get l (n + 1) i (by simpa using h), show n + 1 + i = n + (i + 1) by omega]
    rfl
theorem fold_tagged : ∀ (l : List Rc) (n : Nat) (out : List Tg), SrtL out → (∀ y ∈ out, y.2 < n) → SrtL ((tagged l n).foldl insTg out) ∧ ((tagged l n).foldl insTg out).Perm (out ++ tagged l n) ∧ ((tagged l n).foldl insTg out).map fT = l.foldl insR (out.map fT)
  | [], n, out, h1, h2 => ⟨h1, by simp [tagged], rfl⟩
  | r :: l, n, out, h1, h2 => by
    obtain ⟨s1, s2⟩ := insTg_spec out (mkT r n) h1 h2
    obtain ⟨t1, t2, t3⟩ := fold_tagged l (n + 1) (insTg out (mkT r n)) s1 (fun y hy => by
      rcases List.mem_cons.1 (s2.mem_iff.1 hy) with rfl | hy
      · exact Nat.lt_succ_self n
      · exact Nat.lt_succ_of_lt (h2 y hy))
    refine ⟨t1, ?_, ?_⟩
    · refine t2.trans ?_
      refine (s2.append_right _).trans ?_
      show ((mkT r n) :: out ++ tagged l (n + 1)).Perm (out ++ ((mkT r n) :: tagged l (n + 1)))
      exact List.perm_middle.symm
    · show ((tagged l (n + 1)).foldl insTg (insTg out (mkT r n))).map fT = l.foldl insR (insR (out.map fT) r)
      rw [t3, map_insTg]; rfl
/-- There is one sorted row. -/
theorem sorted_is (l : List Rc) (d' : Array Tg) (hp : PermIn 0 l.length (tagged l 0).toArray d') (hs : SI 0 l.length d') : d'.toList.map fT = sortR l := by
  obtain ⟨t1, t2, t3⟩ := fold_tagged l 0 [] List.Pairwise.nil (by simp)
  have z : (tagged l 0).toArray.size = l.length := by simp [tagged_len]
  rw [← z] at hp hs
  have e1 := sorted_unique_holds swoT lxB_eq _ _ hp hs
  have zs : ((tagged l 0).foldl insTg []).length = l.length := by rw [t2.length_eq]; simp [tagged_len]
  have hp2 : PermIn 0 (tagged l 0).toArray.size (tagged l 0).toArray ((tagged l 0).foldl insTg []).toArray := by
    refine ⟨by simp [zs, tagged_len], fun i hi => ?_, ?_⟩
    · have h1 : l.length ≤ i := by omega
      rw [getElem!_neg _ _ (by simp [zs]; omega), getElem!_neg _ _ (by simp [tagged_len]; omega)]
    · have e2 : (((tagged l 0).foldl insTg []).toArray.extract 0 (tagged l 0).toArray.size).toList = (tagged l 0).foldl insTg [] := by
        simp [tagged_len, ← zs]
      have e3 : ((tagged l 0).toArray.extract 0 (tagged l 0).toArray.size).toList = tagged l 0 := by simp
      rw [e2, e3]
      simpa using t2
  have hs2 : SI 0 (tagged l 0).toArray.size ((tagged l 0).foldl insTg []).toArray := fun i j h1 h2 h3 => by
    have h4 : j < ((tagged l 0).foldl insTg []).length := by rw [zs]; omega
    have := (List.pairwise_iff_getElem.1 t1) i j (by omega) h4 h2
    rw [getElem!_pos _ j (by simpa using h4), getElem!_pos _ i (by simpa using (by omega : i < ((tagged l 0).foldl insTg []).length))]
    simpa using this
  have e4 := sorted_unique_holds swoT lxB_eq _ _ hp2 hs2
  rw [e1, ← e4]
  show ((tagged l 0).foldl insTg []).map fT = _
  rw [t3]; rfl
theorem rise_tagged (l : List Rc) : Rise 0 l.length (tagged l 0).toArray := fun i j h1 h2 h3 => by
  have a : (tagged l 0).toArray[i]! = mkT (l[i]'(by omega)) i := by
    rw [getElem!_pos _ i (by simp [tagged_len]; omega)]
    have := tagged_get l 0 i (by omega)
    rw [List.getElem?_eq_getElem (by rw [tagged_len]; omega), Nat.zero_add] at this
    exact Option.some.inj this
  have b : (tagged l 0).toArray[j]! = mkT l[j] j := by
    rw [getElem!_pos _ j (by simp [tagged_len]; omega)]
    have := tagged_get l 0 j h3
    rw [List.getElem?_eq_getElem (by rw [tagged_len]; omega), Nat.zero_add] at this
    exact Option.some.inj this
  rw [a, b]
  exact h2

/-! ### As cells -/
def flatR (rs : List Rc) : List Value := rs.flatMap fun r => (rv r).toList
theorem flatR_len (rs : List Rc) : (flatR rs).length = rs.length * 4 := by
  induction rs with
  | nil => rfl
  | cons r rs ih =>
    show ((rv r).toList ++ flatR rs).length = _
    rw [List.length_append, ih, List.length_cons]
    show 4 + rs.length * 4 = _
    omega
theorem flatR_append (a b : List Rc) : flatR (a ++ b) = flatR a ++ flatR b := by simp [flatR]
theorem flatR_get (rs : List Rc) : ∀ (i c : Nat), i < rs.length → c < 4 → (flatR rs)[i * 4 + c]? = (rv (rs.getD i zr))[c]? := by
  induction rs with
  | nil => intro i c h; simp at h
  | cons r rs ih =>
    intro i c h hc
    show ((rv r).toList ++ flatR rs)[i * 4 + c]? = _
    cases i with
    | zero =>
      rw [List.getElem?_append_left (by show 0 * 4 + c < 4; omega)]
      simp
    | succ i =>
      have hl : (rv r).toList.length = 4 := rfl
      rw [List.getElem?_append_right (by rw [hl]; omega), hl, show (i + 1) * 4 + c - 4 = i * 4 + c by omega, ih i c (by simpa using h) hc]
      simp
theorem flatR_one (rs : List Rc) : ∀ u ∈ flatR rs, u.oneCell' = true := fun u hu => by
  simp only [flatR, List.mem_flatMap] at hu
  obtain ⟨r, -, hu⟩ := hu
  simp [rv] at hu
  rcases hu with rfl | rfl | rfl | rfl <;> rfl
/-- The sort's flat row of tagged records is the row of records. -/
theorem flatK_tagged (d : Array Tg) : (flatK encT 4 d).toList = flatR (d.toList.map fT) := by
  have hz : (flatR (d.toList.map fT)).length = d.size * 4 := by rw [flatR_len]; simp
  refine List.ext_getElem? fun t => ?_
  by_cases ht : t < d.size * 4
  · have e1 : (flatK encT 4 d).toList[t]? = some (flatK encT 4 d)[t]! := by
      rw [Array.getElem?_toList, Array.getElem?_eq_getElem (by rw [size_flatK]; exact ht), getElem!_pos _ t (by rw [size_flatK]; exact ht)]
    rw [e1, get_flatK _ _ _ _ ht]
    have h2 : t = t / 4 * 4 + t % 4 := by omega
    have h3 := flatR_get (d.toList.map fT) (t / 4) (t % 4) (by simp; omega) (by omega)
    rw [← h2] at h3
    rw [h3]
    have h4 : (d.toList.map fT).getD (t / 4) zr = (d[t / 4]!).1 := by
      have hlt : t / 4 < d.size := by omega
      rw [List.getD_eq_getElem?_getD, List.getElem?_map, Array.getElem?_toList, Array.getElem?_eq_getElem hlt, getElem!_pos d _ hlt]
      rfl
    rw [h4]
    generalize (d[t / 4]!) = x
    have : t % 4 < 4 := by omega
    generalize t % 4 = c at *
    show some ((rv x.1).toList[c]!) = (rv x.1)[c]?
    match c, this with
    | 0, _ => rfl
    | 1, _ => rfl
    | 2, _ => rfl
    | 3, _ => rfl
  · rw [List.getElem?_eq_none (by rw [Array.length_toList, size_flatK]; omega), List.getElem?_eq_none (by omega)]
theorem swk_keeps {w0 W : World} {blk off k : Nat} {enc : Tg → List Value} {d : Array Tg} (h : SWK enc k w0 blk off d W) (hb : blk < w0.heap.size) : Keeps (· = blk) w0 W := by
  obtain ⟨n, os, rfl⟩ := id h
  refine ⟨rfl, rfl, rfl, h.le, fun i hi hne => ?_⟩
  unfold sortWorldK putRowK
  rw [heap_grow_old _ _ (by rw [size_putRow]; exact hi)]
  unfold putRow mapBlock
  show (w0.heap.modify blk _)[i]? = _
  rw [Array.getElem?_modify, if_neg (fun e => hne e.symm)]
theorem swk_block {w0 W : World} {blk : Nat} {d : Array Tg} (h : SWK encT 4 w0 blk 0 d W) {cur : Array Value} {T : TypeId} {fr : Nat × Nat} (hg : w0.heap[blk]? = some (.cells cur T fr)) (hb : blk < w0.heap.size) : W.heap[blk]? = some (.cells (putCells id 0 (flatK encT 4 d) cur) T fr) := by
  obtain ⟨n, os, rfl⟩ := id h
  unfold sortWorldK putRowK
  rw [heap_grow_old _ _ (by rw [size_putRow]; exact hb)]
  unfold putRow mapBlock
  show (w0.heap.modify blk _)[blk]? = _
  rw [Array.getElem?_modify, if_pos rfl, hg]
  rfl
theorem putCells_take (F cur : Array Value) (h : F.size ≤ cur.size) : (putCells id 0 F cur).size = cur.size ∧ (putCells id 0 F cur).toList.take F.size = F.toList := by
  have hz : (putCells id 0 F cur).size = cur.size := by simp [putCells]
  refine ⟨hz, List.ext_getElem? fun t => ?_⟩
  by_cases ht : t < F.size
  · rw [List.getElem?_take_of_lt ht, Array.getElem?_toList, Array.getElem?_toList, Array.getElem?_eq_getElem (by omega), Array.getElem?_eq_getElem ht]
    simp [putCells, ht]
  · rw [List.getElem?_eq_none (by rw [List.length_take]; omega), List.getElem?_eq_none (by simp; omega)]
theorem holds_owns {w : World} {base g cap : Nat} {rs : List Rc} (h : w.ownsRow base 126 4 (.slice (some ⟨g, 0, none⟩) rs.length cap) rs.length (flatR rs)) (d : Array Tg) (hd : d.toList.map fT = rs) : HoldsK encT 4 w g 0 d := by
  have hz : d.size = rs.length := by rw [← hd]; simp
  intro t ht
  rw [size_flatK, hz] at ht
  rw [Nat.zero_add]
  refine ⟨?_, h.frozenAt t⟩
  rw [h.cellAt t ht]
  have e := flatK_tagged d
  rw [hd] at e
  rw [← e, Array.getElem?_toList, Array.getElem?_eq_getElem (by rw [size_flatK, hz]; exact ht), getElem!_pos _ t (by rw [size_flatK, hz]; exact ht)]
  rfl
theorem sort_row {w : World} {base : Nat} {v : Value} {rs : List Rc} (h : w.ownsRow base 126 4 v rs.length (flatR rs)) (hn : rs.length < 40) :
    Calls Tryz.prog 195 #[v, .func (.func 196) #[] #[]] w fun e w' => e = .returned (.tuple #[]) ∧ w'.ownsRow base 126 4 v rs.length (flatR (sortR rs)) ∧ Keeps (fun k => v.ownBlock = some k) w w' := by
  rcases h.2 with ⟨rfl, h0⟩ | ⟨g, cap, cur, rfl, hbg, hg, hnc, hcm, hcs, hct⟩
  · obtain rfl : rs = [] := List.eq_nil_of_length_eq_zero h0
    exact (sort_nil w _).mono fun e w' ⟨he, hw⟩ => by subst hw; exact ⟨he, h, Keeps.refl _ _⟩
  · have hd : ((tagged rs 0).toArray).toList.map fT = rs := by simp [tagged_map]
    have hz : (tagged rs 0).toArray.size = rs.length := by simp [tagged_len]
    have hH := holds_owns h _ hd
    have hb : g < w.heap.size := by
      rcases Nat.lt_or_ge g w.heap.size with h' | h'
      · exact h'
      · rw [Array.getElem?_eq_none h'] at hg; simp at hg
    have Z : Srt 4 0 encT w g (tagged rs 0).toArray 196 := ⟨aggR, sizeR, ⟨encT_len, encT_one, hH, hb⟩, by omega, cmpR_enters, cmpLaysR _ _ _ _⟩
    have hr := rise_tagged rs
    have C := sort_k Z w _ rfl (SWK.start hH) (by omega) cap (by rw [hz]; exact hr)
    rw [hz] at C
    refine C.mono fun e w' ⟨he, d', S, hp, hs⟩ => ⟨he, ?_, ?_⟩
    · have hz' : d'.size = rs.length := hp.1.trans hz
      have hsr := sorted_is rs d' hp hs
      have hF : (flatK encT 4 d').size = rs.length * 4 := by rw [size_flatK, hz']
      have hle : rs.length * 4 ≤ cap * 4 := Nat.mul_le_mul_right _ hnc
      obtain ⟨q1, q2⟩ := putCells_take (flatK encT 4 d') cur (by omega)
      refine ⟨by rw [flatR_len, sortR_len], Or.inr ⟨g, cap, _, rfl, hbg, swk_block S hg hb, hnc, hcm, by rw [q1]; exact hcs, ?_⟩⟩
      rw [← hF, q2, flatK_tagged, hsr]
    · refine (swk_keeps S hb).mono fun k _ hk => ?_
      rw [hk]; rfl

end Go.Proofs.YtiafhcgaikapcaaGreat
