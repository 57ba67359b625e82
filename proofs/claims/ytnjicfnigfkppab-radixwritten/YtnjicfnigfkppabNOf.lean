
/-
  What Of and New make; what Sure tells.
-/
import Derived.Test.YtnjicfnigfkppabNCrash
namespace Go.Proofs.Ytnjicfnigfkppab
open Go.ChangeShapes Go.WideShapes Go.ChangeAt Go.RowKit Go.Joins
set_option maxRecDepth 10000
set_option linter.unusedVariables false
set_option linter.unusedSimpArgs false

/-- Lines that lie where a slice leads. -/
def LinesAt (w : World) (a : Option Addr) (n : Nat) (s : Nat → Nat → Int) : Prop := n = 0 ∨ ∃ b off, a = some ⟨b, off, none⟩ ∧ ∀ i, i < n → w.rangeAt b (off + i * 8) ((List.range 8).map fun j => .int .u64 (s i j))
def Made (w : World) (n : Nat) (s : Nat → Nat → Int) (e : Ending) (w' : World) : Prop :=
  ∃ b c F cs, e = .returned (.tuple #[.pointer (some ⟨b, 0, none⟩), .int .i64 0]) ∧ Rep w' F b (Mm.new n s) c cs ∧ Keeps (fun _ => False) w w' ∧ ∀ k, F k → w.heap.size ≤ k

theorem made_blk {w : World} {base g n : Nat} {e : TypeId} {size : Nat} {z : Array Value} {f : Nat → Value} (h : w.ownsRow base e size (.slice (some ⟨g, 0, none⟩) n n) n (madeCells z (n * size)).toList) (hf : ∀ i, i < n * size → z[i % z.size]! = f i) :
    Blk w g (n * size) e f := by
  rcases h.2 with ⟨h', _⟩ | ⟨g', cap, cur, h', _, hg, _, _, hcs, htake⟩
  · simp at h'
  · simp only [Value.slice.injEq, Option.some.injEq, Addr.mk.injEq, and_true, true_and] at h'
    obtain ⟨rfl, rfl⟩ := h'
    have hcur : cur = tab (n * size) f := by
      rw [List.take_of_length_le (by simp [hcs])] at htake
      have h2 : cur = madeCells z (n * size) := by rw [← Array.toArray_toList (xs := cur), htake, Array.toArray_toList]
      rw [h2]
      apply Array.ext_getElem?
      intro i
      by_cases hi : i < n * size
      · rw [tab_get _ _ _ hi]
        simp only [madeCells, Array.getElem?_map, Array.getElem?_range, hi]
        simp [hf i hi]
      · rw [tab_none _ _ _ (by omega), Array.getElem?_eq_none (by rw [size_madeCells]; omega)]
    refine Blk.of_tab ?_
    rw [← hcur]; exact hg

theorem info_cell : (Try.prog.info? 60).map (fun i => (i.zero, i.size, i.bytes)) = some (some (.agg (tab 25 (encAt (Cel.fresh fun _ => 0)))), 25, 216) := by kernel_rfl
theorem info_line : (Try.prog.info? 32).map (fun i => (i.zero, i.size, i.bytes)) = some (some (.agg (lnV fun _ => 0)), 8, 64) := by kernel_rfl
theorem built_mem (c n : Nat) : Try.prog.built 56 [(0, .slice (some ⟨c, 0, none⟩) n n), (1, .bool true), (2, .int .i64 (-1))] = some #[.slice (some ⟨c, 0, none⟩) n n, .bool true, .int .i64 (-1), .int .i64 0] := by kernel_rfl

def ofTo (s : Nat → Nat → Int) (k : Nat) : Nat → Nat → Int := fun i => if i < k then s i else fun _ => 0
theorem make_rep {w1 w2 : World} {n : Nat} (hown : w2.ownsRow w1.heap.size 60 25 (.slice (some ⟨w1.heap.size, 0, none⟩) n n) n (madeCells (Value.agg (tab 25 (encAt (Cel.fresh fun _ => 0)))).cells (n * 25)).toList) (hgrow : w1.grownBy w2 none) {s : Nat → Nat → Int} :
    Rep (w2.alloc (.cells #[.slice (some ⟨w1.heap.size, 0, none⟩) n n, .bool true, .int .i64 (-1), .int .i64 0] 56)) (fun x => x = w2.heap.size ∨ x = w1.heap.size) w2.heap.size (Mm.new n (ofTo s 0)) w1.heap.size (fun _ => Cel.fresh fun _ => 0) := by
  have hbk : Blk w2 w1.heap.size (n * 25) 60 (encF fun _ => Cel.fresh fun _ => 0) := made_blk hown fun i _ => by
    show (tab 25 (encAt (Cel.fresh fun _ => 0)))[i % (tab 25 (encAt (Cel.fresh fun _ => 0))).size]! = _
    rw [tab_size]
    have := tab_get 25 (encAt (Cel.fresh fun _ => 0)) (i % 25) (Nat.mod_lt _ (by decide))
    rw [getElem!_def, this]; rfl
  have hlt := hbk.lt
  refine ⟨⟨n, heap_new w2 _⟩, hbk.alloc _, fun i => ?_, fun i hi => Or.inl ⟨rfl, rfl, rfl⟩, by omega, fun i hi g hg => by simp [Cel.fresh, Cel.blk] at hg, fun i j hi hj hij g hg => by simp [Cel.fresh, Cel.blk] at hg, Or.inl rfl, Or.inr rfl, fun k hk => ?_⟩
  · simp [Mm.new, ofTo, Cel.fresh]
  · rcases hk with rfl | rfl
    · simp
    · simp; omega
theorem rangeAt_keeps {F : Nat → Prop} {w w' : World} {b o : Nat} {cs : List Value} (h : w.rangeAt b o cs) (hk : Keeps F w w') (hb : ¬ F b) : w'.rangeAt b o cs := fun j v hv => hk.cellOf (h j v hv) hb

theorem of_any (w : World) (a : Option Addr) (n cap : Nat) (s : Nat → Nat → Int) (hn : 64 ≤ n) (hn2 : n ≤ 1024) (hl : LinesAt w a n s) :
    Calls Try.prog 7 #[.slice a n cap] w (Made w n s) := by
  have D : decide ((64 : Int) ≤ (n : Int) ∧ (n : Int) ≤ 1024) = true := by simp; omega
  obtain ⟨x, off, rfl, hx⟩ : ∃ b off, a = some ⟨b, off, none⟩ ∧ ∀ i, i < n → w.rangeAt b (off + i * 8) ((List.range 8).map fun j => .int .u64 (s i j)) := by
    rcases hl with h | h
    · omega
    · exact h
  have HX := hide hx
  clear hl hx
  obtain ⟨i0, hi, hz0, hz1, hz2⟩ := info_parts info_cell
  go_enter Try.func7, Try.ntmps7
  go_wp2_with fail
  refine (isSize_any _ _).mono ?_
  rintro e w1 ⟨rfl, rfl⟩
  rw [D]
  go_wp2_with (at_make; refine wpList_make_full _ rfl _ _ 54 rfl w1.heap.size 60 i0 _ 25 Try.underlying54 hi hz0 hz1 .i64 .i64 _ _ n rfl rfl rfl rfl (by rw [hz2]; omega) (by unfold maxLen; omega) (Nat.le_refl _) ?_; intro w2 hown hgrow)
  have hW := make_rep hown hgrow (s := s)
  obtain ⟨b, hb⟩ : ∃ b, b = w2.heap.size := ⟨_, rfl⟩
  obtain ⟨c, hc⟩ : ∃ c, c = w1.heap.size := ⟨_, rfl⟩
  rw [← hb, ← hc] at hW ⊢
  have hbw : Hid (w1.heap.size ≤ b) := by show _ ≤ _; rw [hb]; exact hgrow.size
  have hcw : Hid (w1.heap.size ≤ c) := by show _ ≤ _; rw [hc]; exact Nat.le_refl _
  have HKW : Hid (Keeps (fun _ => False) w1 (w2.alloc (.cells #[.slice (some ⟨c, 0, none⟩) n n, .bool true, .int .i64 (-1), .int .i64 0] 56))) := (Keeps.grown (Keeps.refl _ _) hgrow (fun k hk => by simp at hk)).alloc _
  have HW := hide hW
  clear hown hgrow hb hc hW hi hz0 hz1 hz2 i0
  generalize w2.alloc (.cells #[.slice (some ⟨c, 0, none⟩) n n, .bool true, .int .i64 (-1), .int .i64 0] 56) = W at *
  clear w2
  go_loopw [18] (fun i wr => ∃ k : Nat, k ≤ n ∧ i = .int .i64 k ∧ ∃ cr, Rep wr (fun x => x = b ∨ x = c) b (Mm.new n (ofTo s k)) c cr ∧ Keeps (fun _ => False) w1 wr) (fun i _ => n - (intOf i).toNat)
  case atStart => exact ⟨0, by omega, rfl, _, unhide HW, unhide HKW⟩
  case round =>
    clear HW HKW
    clear W
    obtain ⟨k, hk, rfl, cr, hr, hkp⟩ := hrel
    by_cases hlt : k < n
    · have HR := hide hr
      have HK := hide hkp
      have hcr : wr.rangeAt x (off + k * 8) ((List.range 8).map fun j => .int .u64 (s k j)) := rangeAt_keeps (unhide HX k hlt) hkp id
      have HCR := hide hcr
      have s8 : (Try.prog.info? 32).map (·.size) = some ((List.range 8).map fun j => Value.int .u64 (s k j)).length := by rw [List.length_map, List.length_range]; exact lsize
      have s8' : (Try.prog.info? 32).map (·.size) = some (lnV (s k)).size := by rw [lnV_size]; exact lsize
      have hk' : (k : Int) < (n : Int) := by omega
      clear hr hkp hcr
      go_wp2_with (refine wpList_load_mid rfl 32 _ rfl x (off + k * 8) rfl _ _ (unhide HCR) Try.underlying32 rfl s8 ?_)
      have hz : (#[.int .u64 (s k 0), .int .u64 (s k 1), .int .u64 (s k 2), .int .u64 (s k 3), .int .u64 (s k 4), .int .u64 (s k 5), .int .u64 (s k 6), .int .u64 (s k 7)] : Array Value) = lnV (s k) := rfl
      rw [hz]
      clear hz
      obtain ⟨L, hL⟩ : ∃ L, L = wr.heap.size := ⟨_, rfl⟩
      have hLc : L ≠ c := by have := (unhide HR).lt c (Or.inr rfl); omega
      have HV := hide ((unhide HR).alloc (.cells (lnV (s k)) 32))
      have HKV : Hid (Keeps (fun _ => False) w1 (wr.alloc (.cells (lnV (s k)) 32))) := (unhide HK).alloc _
      have HRL : Hid ((wr.alloc (.cells (lnV (s k)) 32)).rangeAt L 0 ((List.range 8).map fun j => .int .u64 (s k j))) := by
        rw [hL]; exact Blk.range (f := fun j => .int .u64 (s k j)) (N := 8) (T := 32) (Blk.of_tab (heap_new wr _)) 0 8 (by omega) _ (fun j hj => by rw [Nat.zero_add])
      rw [← hL]
      clear hL HCR HR HK
      generalize wr.alloc (.cells (lnV (s k)) 32) = V at *
      clear wr
      obtain ⟨K0, c0⟩ := (unhide HV).c0
      simp only [Mm.new] at c0
      have hbc := (unhide HV).bc
      have s25 : (Try.prog.info? 60).map (·.size) = some (tab 25 (encAt (Cel.fresh (s k)))).size := by rw [tab_size]; exact csize
      refine wp_region_noPanic ?_
      refine wp_region_held_drew (S := fun w' => w'.cell? ⟨b, 0, none⟩ = some (.slice (some ⟨c, 0, none⟩) n K0) ∧ w'.rangeAt L 0 ((List.range 8).map fun j => .int .u64 (s k j))) (by kernel_rfl) ⟨c0, unhide HRL⟩ (fun hHeld => ?_)
      clear c0
      refine take_at 0 23 (v := ?_) rfl rfl (by kernel_rfl) (by kernel_rfl) (by kernel_rfl) (Or.inl ⟨by rfl, ?_⟩) hHeld ?_
      rotate_left
      · intro w hSw; go_simp; with_reducible rfl
      simp only [Act.put, List.setIfInBounds_toArray, List.set_cons_zero, List.set_cons_succ]
      refine take_at 1 24 (v := ?_) rfl rfl (by kernel_rfl) (by kernel_rfl) (by kernel_rfl) (Or.inl ⟨by rfl, ?_⟩) hHeld ?_
      rotate_left
      · intro w hSw; go_simp; with_reducible rfl
      simp only [Act.put, List.setIfInBounds_toArray, List.set_cons_zero, List.set_cons_succ]
      refine take_at 2 25 (v := ?_) rfl rfl (by kernel_rfl) (by kernel_rfl) (by kernel_rfl) (Or.inl ⟨by rfl, ?_⟩) hHeld ?_
      rotate_left
      · intro w hSw; go_simp; with_reducible rfl
      simp only [Act.put, List.setIfInBounds_toArray, List.set_cons_zero, List.set_cons_succ]
      refine take_at 3 26 (v := ?_) rfl rfl (by kernel_rfl) (by kernel_rfl) (by kernel_rfl) (Or.inl ⟨by rfl, ?_⟩) hHeld ?_
      rotate_left
      · intro w hSw; obtain ⟨s1, s2⟩ := hSw; go_simp; with_reducible rfl
      simp only [Act.put, List.setIfInBounds_toArray, List.set_cons_zero, List.set_cons_succ]
      refine take_at 4 27 (v := ?_) rfl rfl (by kernel_rfl) (by kernel_rfl) (by kernel_rfl) (Or.inl ⟨by rfl, ?_⟩) hHeld ?_
      rotate_left
      · intro w hSw; go_simp; with_reducible rfl
      simp only [Act.put, List.setIfInBounds_toArray, List.set_cons_zero, List.set_cons_succ]
      refine take_at 5 28 rfl rfl (by kernel_rfl) (by kernel_rfl) (by kernel_rfl) (yieldsIf_load_mid (by rfl) _ _ rfl L 0 rfl _ _ (fun w h => h.2) Try.underlying32 rfl s8) hHeld ?_
      simp only [Act.put, List.setIfInBounds_toArray, List.set_cons_zero, List.set_cons_succ]
      refine take_at 6 29 rfl rfl (by kernel_rfl) (by kernel_rfl) (by kernel_rfl) (yieldsIf_load_mid (by rfl) _ _ rfl L 0 rfl _ _ (fun w h => h.2) Try.underlying32 rfl s8) hHeld ?_
      simp only [Act.put, List.setIfInBounds_toArray, List.set_cons_zero, List.set_cons_succ]
      refine take_at 7 30 rfl rfl (by kernel_rfl) (by kernel_rfl) (by kernel_rfl) (yieldsIf_build2 (by rfl) 60 0 1 (.tmp 28) (.tmp 29) rfl (.agg (lnV (s k))) (.agg (lnV (s k))) rfl rfl _ (built_cell (s k))) hHeld ?_
      simp only [Act.put, List.setIfInBounds_toArray, List.set_cons_zero, List.set_cons_succ]
      refine take_at 8 31 (v := ?_) rfl rfl (by kernel_rfl) (by kernel_rfl) (by kernel_rfl) (Or.inl ⟨by rfl, ?_⟩) hHeld ?_
      rotate_left
      · intro w hSw; go_simp; with_reducible rfl
      simp only [Act.put, List.setIfInBounds_toArray, List.set_cons_zero, List.set_cons_succ]
      refine wpAnyH_ready (rs := [9]) (by kernel_rfl) (by simp) ?_
      refine AllReadyH.cons rfl (fun K hK => ?_) AllReadyH.nil
      refine (if_pos (by rfl)).mpr ?_
      refine wp_store_mid 60 _ _ rfl c (k * 25) (tab 25 (encAt (Cel.fresh (s k)))) rfl rfl (by rw [tab_size]; exact ((unhide HV).bl.there (k * 25) 25 (show k * 25 + 25 ≤ n * 25 by omega))) s25 (tabC_one _) ?_
      have HKX : Hid (Keeps (· = c) V (V.drew.setCells c (k * 25) (tab 25 (encAt (Cel.fresh (s k)))).toList)) := Keeps.setCells (F := (· = c)) (Or.inl rfl) _ _ _ (Keeps.refl _ _).drew
      have HRX : Hid (∃ cr', Rep (V.drew.setCells c (k * 25) (tab 25 (encAt (Cel.fresh (s k)))).toList) (fun x => x = b ∨ x = c) b (Mm.new n (ofTo s (k + 1))) c cr') := by
        have := (unhide HV).line_same k hlt (Cel.fresh (s k)) (unhide HKX) (Blk.putC (w := V.drew) (unhide HV).bl (k * 25) _) (Or.inl ⟨rfl, rfl, rfl⟩) (fun g hg => by simp [Cel.fresh, Cel.blk] at hg)
        refine ⟨upd cr k (Cel.fresh (s k)), ?_⟩
        have e : upd (Mm.new n (ofTo s k)).l k (Cel.fresh (s k)).l = (Mm.new n (ofTo s (k + 1))).l := by
          funext i
          by_cases hi : i = k
          · subst hi; rw [upd_same]; simp [Mm.new, ofTo, Cel.fresh]
          · rw [upd_other _ _ _ _ hi]
            by_cases h2 : i < k
            · simp [Mm.new, ofTo, h2, show i < k + 1 by omega]
            · simp [Mm.new, ofTo, h2, show ¬ i < k + 1 by omega]
        rw [e] at this; exact this
      have HKY : Hid (Keeps (fun _ => False) w1 (V.drew.setCells c (k * 25) (tab 25 (encAt (Cel.fresh (s k)))).toList)) := Keeps.setCells (Or.inr (unhide hcw)) _ _ _ (unhide HKV).drew
      refine hK.out _ _ ⟨(unhide HKX).cellOf (w := V) hHeld.1 hbc, rangeAt_keeps (w := V) (unhide HRL) (unhide HKX) hLc⟩ (fun hNew => ?_)
      clear hK K hHeld hNew HKX HV HKV HRL
      generalize V.drew.setCells c (k * 25) (tab 25 (encAt (Cel.fresh (s k)))).toList = X at *
      refine wpAnyH_done (by kernel_rfl) ?_ _
      refine NoPanic.normal ?_
      go_wp2_with fail
      go_roundw
      case rel =>
        obtain ⟨cr', hr'⟩ := unhide HRX
        exact ⟨k + 1, by omega, by go_num, cr', hr', unhide HKY⟩
      case measure => simp [intOf]; omega
    · obtain rfl : k = n := by omega
      have HR := hide hr
      have HK := hide hkp
      clear hr hkp
      go_wp2_with fail
      go_ret2
      obtain ⟨cr', hr'⟩ := (unhide HR).lines (A' := Mm.new k s) rfl rfl rfl rfl (fun i hi => by simp [Mm.new, ofTo, show i < k from hi])
      exact ⟨b, c, _, cr', rfl, hr', unhide HK, fun x hx => by rcases hx with rfl | rfl; exact unhide hbw; exact unhide hcw⟩

theorem of_bad (w : World) (a : Option Addr) (n cap : Nat) (hn : ¬ (64 ≤ n ∧ n ≤ 1024)) :
    Calls Try.prog 7 #[.slice a n cap] w fun e w' => e = .returned (.tuple #[.pointer none, .int .i64 1]) ∧ w' = w := by
  have D : decide ((64 : Int) ≤ (n : Int) ∧ (n : Int) ≤ 1024) = false := by simp; omega
  clear hn
  go_enter Try.func7, Try.ntmps7
  go_wp2_with fail
  refine (isSize_any _ _).mono ?_
  rintro e w1 ⟨rfl, rfl⟩
  rw [D]
  go_wp2_with fail
  go_ret2
  exact ⟨rfl, rfl⟩

/-! ### Sure -/
/-- What Sure tells: a new row of lines. -/
def Told (F : Nat → Prop) (w : World) (b c : Nat) (A : Mm) (cs : Nat → Cel) (e : Ending) (w' : World) : Prop :=
  ∃ g, e = .returned (.slice (some ⟨g, 0, none⟩) A.n A.n) ∧ w.heap.size ≤ g ∧ Blk w' g (A.n * 8) 32 (fun i => .int .u64 ((A.l (i / 8)).s (i % 8))) ∧ Rep w' F b A c cs ∧ Keeps (fun _ => False) w w'
def toldTo (A : Mm) (k : Nat) : Nat → Value := fun i => if i < k * 8 then .int .u64 ((A.l (i / 8)).s (i % 8)) else .int .u64 0


end Go.Proofs.Ytnjicfnigfkppab
