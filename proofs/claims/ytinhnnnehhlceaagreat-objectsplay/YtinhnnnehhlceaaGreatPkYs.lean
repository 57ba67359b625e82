import Derived.Test.YtinhnnnehhlceaaGreatPkIn
import Derived.Test.YtinhnnnehhlceaaGreatPkSto
import Derived.Test.YtinhnnnehhlceaaGreatPkUn
import Derived.Test.YtinhnnnehhlceaaGreatPkFr
import Derived.Test.YtinhnnnehhlceaaGreatPkRef

/-
  The document's rows of lines: lines of a table, and whether a number is among some.
-/
namespace Go.Proofs.YtinhnnnehhlceaaGreat
open Go.ChangeShapes Go.WideShapes Go.ChangeAt Go.RowKit Go.Joins
set_option maxRecDepth 10000
set_option linter.unusedVariables false
set_option linter.unusedSimpArgs false

theorem tab_cells {w : World} {g : Nat} {T : TypeId} {fr : Nat × Nat} {f : Nat → En} (h : w.heap[g]? = some (.cells (tabV f) T fr)) (j : Nat) (hj : j < 49) :
    w.cell? ⟨g, j * 3, none⟩ = some (.int .i64 (f j).k) ∧ w.cell? ⟨g, j * 3 + 2, none⟩ = some (.int .i64 (f j).l) := by
  refine ⟨?_, ?_⟩
  · rw [cell_of_block h, tabV_cell _ _ (by omega), fl3_0]
  · rw [cell_of_block h, tabV_cell _ _ (by omega), fl3_2]
def Lined (f : Nat → En) (w : World) (e : Ending) (w' : World) : Prop := ∃ v, e = .returned v ∧ Keeps (fun _ => False) w w' ∧ RowX w.heap.size v (linesL f) w'
set_option maxHeartbeats 2000000 in
theorem rlines_any (f : Nat → En) (w : World) : Calls Tryz.prog 70 #[.agg (tabV f)] w (Lined f w) := by
  have R0 : Hid (RowSt w (w.alloc (.cells (tabV f) 42)) (.slice none 0 0) (linesTo f 0) [(w.heap.size, .cells (tabV f) 42)]) :=
    ⟨(Keeps.refl _ _).alloc _, RowX.nil _ _, fun p hp => by rw [List.mem_singleton] at hp; subst hp; exact ⟨heap_new _ _, by simp [Value.ownBlock], Nat.le_refl _⟩⟩
  have CK : Hid (∀ (w' : World) (g j : Nat), w'.heap[g]? = some (.cells (tabV f) 42 (0, 0)) → j < 49 → w'.cell? ⟨g, j * 3, none⟩ = some (.int .i64 (f j).k) ∧ w'.cell? ⟨g, j * 3 + 2, none⟩ = some (.int .i64 (f j).l)) := fun w' g j h hj => tab_cells h j hj
  obtain ⟨TV, hTV⟩ : ∃ TV, TV = tabV f := ⟨_, rfl⟩
  rw [← hTV] at R0 CK ⊢
  clear hTV
  have hst : ∀ (U : World), U = U := fun _ => rfl
  clear hst
  go_enter Tryz.func70, Tryz.ntmps70
  go_upto_region 1 with fail
  obtain ⟨g, hg⟩ : ∃ g, g = w.heap.size := ⟨_, rfl⟩
  rw [← hg] at R0 ⊢
  generalize w.alloc (.cells TV 42) = w1 at *
  clear hg
  go_wp2_with fail
  go_loopw [3, 4] (fun v q wr => ∃ j : Nat, j ≤ 49 ∧ q = .int .i64 j ∧ RowSt w wr v (linesTo f j) [(g, .cells TV 42)]) (fun _ q _ => 49 - (intOf q).toNat)
  case atStart => exact ⟨0, by omega, rfl, unhide R0⟩
  case round =>
    clear R0
    obtain ⟨j, hj, rfl, hr⟩ := hrel
    have RS := hide hr
    clear hr
    by_cases hlt : j < 49
    · have hjn : (j : Int) < 49 := by omega
      have hI := hide (linesTo_in f j)
      have hO := hide (linesTo_out f j)
      have hlen : (linesTo f j).length < 1000 := by have := linesTo_len f j; omega
      obtain ⟨c0, c2⟩ := unhide CK wr g j ((unhide RS).at g (.cells TV 42) (by simp)) hlt
      generalize (f j).k = k at *
      generalize (f j).l = l at *
      by_cases hk : k = 0
      · have hE := hide (unhide hO hk)
        subst hk
        clear hI hO c2
        rw [← unhide hE] at RS
        clear hE
        go_wp2_with fail
        go_roundw
        case rel => exact ⟨j + 1, by omega, by go_num, unhide RS⟩
        case measure => simp [intOf]; omega
      · have hE := hide (unhide hI hk)
        have hk1 : (k != 0) = true := by simpa using hk
        clear hI hO hk
        go_wp2_with (at_builtin; refine push_st l rfl (.tmp 14) (.tmp 19) rfl rfl (unhide RS) rfl hlen ?_; intro v1' w8 st1; have RS1 := hide st1; clear st1)
        rw [← unhide hE] at RS1
        go_roundw
        case rel => exact ⟨j + 1, by omega, by go_num, unhide RS1⟩
        case measure => simp [intOf]; omega
    · have e49 : j = 49 := by omega
      have hge : ¬ ((j : Int) < 49) := by omega
      subst e49
      go_wp2_with fail
      go_ret
      exact ⟨_, rfl, (unhide RS).kp, (unhide RS).2.1⟩

theorem contains_take (l : List Int) (z : Int) (j : Nat) (hj : j < l.length) (h : (l.take j).contains z = false) : (l.take (j + 1)).contains z = (l.getD j 0 == z) := by
  rw [take_contains l j hj, h, Bool.false_or]
theorem contains_of (l : List Int) (z : Int) (j : Nat) (hj : j < l.length) (h : l.getD j 0 = z) : l.contains z = true := by
  rw [List.contains_iff_mem]
  rw [List.getD_eq_getElem?_getD, List.getElem?_eq_getElem hj] at h
  exact h ▸ List.getElem_mem hj
def hasL (l : List Int) (z : Int) : Bool := l.contains z
theorem hasL_cut (l : List Int) (z : Int) (j : Nat) (hj : j < l.length) (h : hasL (l.take j) z = false) : hasL (l.take (j + 1)) z = (l.getD j 0 == z) := contains_take l z j hj h
theorem hasL_of (l : List Int) (z : Int) (j : Nat) (hj : j < l.length) (h : l.getD j 0 = z) : hasL l z = true := contains_of l z j hj h
set_option maxHeartbeats 1000000 in
theorem rin_any (w : World) (a : Option Addr) (l : List Int) (cap : Nat) (z : Int) (hl : LiesI w a l) (hn : l.length ≤ 9223372036854775807) :
    Calls Tryz.prog 128 #[.slice a l.length cap, .int .i64 z] w fun e w' => e = .returned (.bool (hasL l z)) ∧ w' = w := by
  have HL := hide hl
  clear hl
  obtain ⟨n, hnn⟩ : ∃ n, n = l.length := ⟨_, rfl⟩
  rw [← hnn] at hn ⊢
  have HNN := hide hnn
  clear hnn
  go_enter Tryz.func128, Tryz.ntmps128
  go_wp2_with fail
  go_loopw [5] (fun q wr => ∃ j : Nat, j ≤ n ∧ q = .int .i64 j ∧ wr = w ∧ hasL (l.take j) z = false) (fun q _ => n - (intOf q).toNat)
  case atStart => exact ⟨0, by omega, rfl, rfl, by simp [hasL]⟩
  case round =>
    obtain ⟨j, hj, rfl, rfl, hc⟩ := hrel
    have HC := hide hc
    clear hc
    by_cases hlt : j < n
    · have hjn : (j : Int) < (n : Int) := by omega
      have hlj : j < l.length := by have := unhide HNN; omega
      obtain ⟨x, off, rfl, hx⟩ : ∃ x off, a = some ⟨x, off, none⟩ ∧ ∀ i, i < l.length → wr.cell? ⟨x, off + i, none⟩ = some (.int .i64 (l.getD i 0)) := by
        rcases unhide HL with h | h
        · rw [h] at hlj; simp at hlj
        · exact h
      have cx := hx j hlj
      have CT := hide (hasL_cut l z j hlj (unhide HC))
      have CO := hide (hasL_of l z j hlj)
      clear hx hlj HL
      generalize l.getD j 0 = y at *
      by_cases hy : y = z
      · have HY := hide (unhide CO hy)
        subst hy
        go_wp2_with fail
        go_ret
        exact ⟨by rw [unhide HY]; rfl, rfl⟩
      · have hy1 : (y == z) = false := by simpa using hy
        have HCN : Hid (hasL (l.take (j + 1)) z = false) := (unhide CT).trans hy1
        clear hy CT CO HC
        go_wp2_with fail
        go_roundw
        case rel => exact ⟨j + 1, by omega, by go_num, trivial, unhide HCN⟩
        case measure => simp [intOf]; omega
    · have hge : ¬ ((j : Int) < (n : Int)) := by omega
      have e : hasL l z = false := by
        have h1 := unhide HC
        rw [List.take_of_length_le (by have := unhide HNN; omega)] at h1
        exact h1
      go_wp2_with fail
      go_ret
      exact ⟨rfl, rfl⟩

end Go.Proofs.YtinhnnnehhlceaaGreat


/-
  How the document's store of objects lies: one block of 452 cells (the memory's pointer, the frames' pointer, the working table, the base, its Dir, what was marked, whether something is).
-/
namespace Go.Proofs.YtinhnnnehhlceaaGreat
open Go.ChangeShapes Go.WideShapes Go.ChangeAt Go.RowKit Go.Joins
set_option maxRecDepth 100000
set_option linter.unusedVariables false
set_option linter.unusedSimpArgs false

def yF (z f : Nat) (S : Sto) (K : Nat → En) (i : Nat) : Value :=
  if i = 0 then .pointer (some ⟨z, 0, none⟩) else if i = 1 then .pointer (some ⟨f, 0, none⟩) else if i < 149 then .int .i64 (fl3 S.w (i - 2)) else if i < 296 then .int .i64 (fl3 S.b (i - 149))
  else if i < 304 then .int .i64 (S.d (i - 296)) else if i < 451 then .int .i64 (fl3 K (i - 304)) else .bool S.is
def YRep (z f : Nat) (S : Sto) (K : Nat → En) (w : World) (y : Nat) : Prop := Blk w y 452 76 (yF z f S K)
theorem yF_w (z f : Nat) (S : Sto) (K : Nat → En) (j : Nat) (h : j < 147) : yF z f S K (2 + j) = .int .i64 (fl3 S.w j) := by
  unfold yF; rw [if_neg (by omega), if_neg (by omega), if_pos (by omega), show 2 + j - 2 = j by omega]
theorem yF_b (z f : Nat) (S : Sto) (K : Nat → En) (j : Nat) (h : j < 147) : yF z f S K (149 + j) = .int .i64 (fl3 S.b j) := by
  unfold yF; rw [if_neg (by omega), if_neg (by omega), if_neg (by omega), if_pos (by omega), show 149 + j - 149 = j by omega]
theorem yF_d (z f : Nat) (S : Sto) (K : Nat → En) (j : Nat) (h : j < 8) : yF z f S K (296 + j) = .int .i64 (S.d j) := by
  unfold yF; rw [if_neg (by omega), if_neg (by omega), if_neg (by omega), if_neg (by omega), if_pos (by omega), show 296 + j - 296 = j by omega]
theorem yF_k (z f : Nat) (S : Sto) (K : Nat → En) (j : Nat) (h : j < 147) : yF z f S K (304 + j) = .int .i64 (fl3 K j) := by
  unfold yF; rw [if_neg (by omega), if_neg (by omega), if_neg (by omega), if_neg (by omega), if_neg (by omega), if_pos (by omega), show 304 + j - 304 = j by omega]
theorem yF_is (z f : Nat) (S : Sto) (K : Nat → En) : yF z f S K 451 = .bool S.is := rfl
section
variable {z f y : Nat} {S : Sto} {K : Nat → En} {w : World}
theorem YRep.c0 (h : YRep z f S K w y) : w.cell? ⟨y, 0, none⟩ = some (.pointer (some ⟨z, 0, none⟩)) := Blk.cell h 0 (by decide)
theorem YRep.c1 (h : YRep z f S K w y) : w.cell? ⟨y, 1, none⟩ = some (.pointer (some ⟨f, 0, none⟩)) := Blk.cell h 1 (by decide)
theorem YRep.cis (h : YRep z f S K w y) : w.cell? ⟨y, 451, none⟩ = some (.bool S.is) := Blk.cell h 451 (by decide)
theorem YRep.rw (h : YRep z f S K w y) : w.rangeAt y 2 (tabV S.w).toList := by rw [tabV_list]; exact Blk.range h 2 147 (by decide) _ fun j hj => yF_w z f S K j hj
theorem YRep.rb (h : YRep z f S K w y) : w.rangeAt y 149 (tabV S.b).toList := by rw [tabV_list]; exact Blk.range h 149 147 (by decide) _ fun j hj => yF_b z f S K j hj
theorem YRep.rk (h : YRep z f S K w y) : w.rangeAt y 304 (tabV K).toList := by rw [tabV_list]; exact Blk.range h 304 147 (by decide) _ fun j hj => yF_k z f S K j hj
theorem YRep.rd (h : YRep z f S K w y) : w.rangeAt y 296 (dirV S.d).toList := by rw [dirV_list]; exact Blk.range h 296 8 (by decide) _ fun j hj => yF_d z f S K j hj
theorem YRep.ck (h : YRep z f S K w y) (i : Nat) (hi : i < 49) : w.cell? ⟨y, 2 + i * 3, none⟩ = some (.int .i64 (S.w i).k) := by
  rw [Blk.cell h _ (by omega), yF_w _ _ _ _ _ (by omega), fl3_0]
theorem YRep.cv (h : YRep z f S K w y) (i : Nat) (hi : i < 49) : w.cell? ⟨y, 2 + i * 3 + 1, none⟩ = some (.int .i64 (S.w i).v) := by
  rw [Blk.cell h _ (by omega), show 2 + i * 3 + 1 = 2 + (i * 3 + 1) by omega, yF_w _ _ _ _ _ (by omega), fl3_1]
theorem YRep.cl (h : YRep z f S K w y) (i : Nat) (hi : i < 49) : w.cell? ⟨y, 2 + i * 3 + 2, none⟩ = some (.int .i64 (S.w i).l) := by
  rw [Blk.cell h _ (by omega), show 2 + i * 3 + 2 = 2 + (i * 3 + 2) by omega, yF_w _ _ _ _ _ (by omega), fl3_2]
theorem YRep.cd (h : YRep z f S K w y) (i : Nat) (hi : i < 8) : w.cell? ⟨y, 296 + i, none⟩ = some (.int .i64 (S.d i)) := by
  rw [Blk.cell h _ (by omega), yF_d _ _ _ _ _ hi]
theorem YRep.en (h : YRep z f S K w y) (i : Nat) (hi : i < 49) : w.rangeAt y (2 + i * 3) (ev (S.w i)).toList := fun j v hv => by
  rw [ev_list] at hv
  match j, hv with
  | 0, hv => show w.cell? ⟨y, 2 + i * 3, none⟩ = _; rw [h.ck i hi]; simpa using hv
  | 1, hv => rw [h.cv i hi]; simpa using hv
  | 2, hv => rw [h.cl i hi]; simpa using hv
  | j + 3, hv => simp at hv
theorem YRep.fr (h : YRep z f S K w y) (i : Nat) : w.frozen? ⟨y, i, none⟩ = false := Blk.free h i
theorem YRep.keeps {F : Nat → Prop} {w' : World} (h : YRep z f S K w y) (hk : Keeps F w w') (hc : ¬ F y) : YRep z f S K w' y := Blk.keeps h hk hc
theorem YRep.lt (h : YRep z f S K w y) : y < w.heap.size := Blk.lt h
theorem YRep.putK (h : YRep z f S K w y) (K' : Nat → En) : YRep z f S K' (w.setCells y 304 (tabV K').toList) y := by
  refine (Blk.sets (tabV K').toList w _ 304 h).ext fun j hj => ?_
  rw [Array.length_toList, tabV_size]
  by_cases c : 304 ≤ j ∧ j < 304 + 147
  · obtain ⟨n, rfl⟩ : ∃ n, j = 304 + n := ⟨j - 304, by omega⟩
    rw [if_pos c, show 304 + n - 304 = n by omega, tabV_get K' n (by omega), yF_k _ _ _ _ _ (by omega)]
  · rw [if_neg c]
    unfold yF
    repeat' split
    all_goals first | rfl | omega
theorem YRep.putB (h : YRep z f S K w y) (g : Nat → En) : YRep z f ⟨S.F, S.w, g, S.d, S.k, S.is⟩ K (w.setCells y 149 (tabV g).toList) y := by
  refine (Blk.sets (tabV g).toList w _ 149 h).ext fun j hj => ?_
  rw [Array.length_toList, tabV_size]
  by_cases c : 149 ≤ j ∧ j < 149 + 147
  · obtain ⟨n, rfl⟩ : ∃ n, j = 149 + n := ⟨j - 149, by omega⟩
    rw [if_pos c, show 149 + n - 149 = n by omega, tabV_get g n (by omega), yF_b _ _ _ _ _ (by omega)]
  · rw [if_neg c]
    unfold yF
    repeat' split
    all_goals first | rfl | omega
theorem YRep.putD (h : YRep z f S K w y) (d : Nat → Int) : YRep z f ⟨S.F, S.w, S.b, d, S.k, S.is⟩ K (w.setCells y 296 (dirV d).toList) y := by
  refine (Blk.sets (dirV d).toList w _ 296 h).ext fun j hj => ?_
  rw [Array.length_toList, dirV_size]
  by_cases c : 296 ≤ j ∧ j < 296 + 8
  · obtain ⟨n, rfl⟩ : ∃ n, j = 296 + n := ⟨j - 296, by omega⟩
    rw [if_pos c, show 296 + n - 296 = n by omega, dirV_get d n (by omega), yF_d _ _ _ _ _ (by omega)]
  · rw [if_neg c]
    unfold yF
    repeat' split
    all_goals first | rfl | omega
theorem YRep.putIs (h : YRep z f S K w y) (x : Bool) : YRep z f ⟨S.F, S.w, S.b, S.d, S.k, x⟩ K (w.setCell ⟨y, 451, none⟩ (.bool x)) y := by
  refine (Blk.set h 451 (.bool x)).ext fun j hj => ?_
  by_cases e : j = 451
  · subst e; rw [upd_same]; rfl
  · rw [upd_other _ _ _ _ e]
    unfold yF
    repeat' split
    all_goals first | rfl | omega
theorem yF_withW (z f : Nat) (S : Sto) (K : Nat → En) (i : Nat) (x : En) (j : Nat) : yF z f (S.withW i x) K j = if 2 ≤ j ∧ j < 149 ∧ (j - 2) / 3 = i then .int .i64 (fl3 (fun _ => x) (j - 2)) else yF z f S K j := by
  unfold yF Sto.withW
  by_cases h0 : j = 0
  · rw [if_pos h0, if_pos h0, if_neg (by omega)]
  · rw [if_neg h0, if_neg h0]
    by_cases h1 : j = 1
    · rw [if_pos h1, if_pos h1, if_neg (by omega)]
    · rw [if_neg h1, if_neg h1]
      by_cases h2 : j < 149
      · rw [if_pos h2, if_pos h2, fl3_upd]
        by_cases h3 : (j - 2) / 3 = i
        · rw [if_pos h3, if_pos ⟨by omega, h2, h3⟩]
        · rw [if_neg h3, if_neg (fun q => h3 q.2.2)]
      · rw [if_neg h2, if_neg h2, if_neg (show ¬ (2 ≤ j ∧ j < 149 ∧ (j - 2) / 3 = i) by omega)]
theorem YRep.withW (h : YRep z f S K w y) (i : Nat) (hi : i < 49) (x : En) : YRep z f (S.withW i x) K (w.setCells y (2 + i * 3) (ev x).toList) y := by
  refine (Blk.sets (ev x).toList w _ (2 + i * 3) h).ext fun j hj => ?_
  rw [yF_withW, ev_list]
  by_cases c : 2 + i * 3 ≤ j ∧ j < 2 + i * 3 + 3
  · rw [if_pos (by simpa using c), if_pos ⟨by omega, by omega, by omega⟩]
    rcases (show j = 2 + i * 3 ∨ j = 2 + i * 3 + 1 ∨ j = 2 + i * 3 + 2 by omega) with rfl | rfl | rfl
    · rw [show 2 + i * 3 - (2 + i * 3) = 0 by omega, show 2 + i * 3 - 2 = i * 3 by omega, fl3_0]; rfl
    · rw [show 2 + i * 3 + 1 - (2 + i * 3) = 1 by omega, show 2 + i * 3 + 1 - 2 = i * 3 + 1 by omega, fl3_1]; rfl
    · rw [show 2 + i * 3 + 2 - (2 + i * 3) = 2 by omega, show 2 + i * 3 + 2 - 2 = i * 3 + 2 by omega, fl3_2]; rfl
  · rw [if_neg (by simpa using c), if_neg (by omega)]
theorem YRep.line (h : YRep z f S K w y) (i : Nat) (hi : i < 49) (l : Int) : YRep z f (S.withW i (moved (S.w i) l)) K (w.setCell ⟨y, 2 + i * 3 + 2, none⟩ (.int .i64 l)) y := by
  refine (Blk.set h (2 + i * 3 + 2) (.int .i64 l)).ext fun j hj => ?_
  rw [yF_withW]
  by_cases e : j = 2 + i * 3 + 2
  · subst e
    rw [upd_same, if_pos ⟨by omega, by omega, by omega⟩, show 2 + i * 3 + 2 - 2 = i * 3 + 2 by omega, fl3_2]; rfl
  · rw [upd_other _ _ _ _ e]
    by_cases c : 2 ≤ j ∧ j < 149 ∧ (j - 2) / 3 = i
    · rw [if_pos c]
      obtain ⟨n, rfl⟩ : ∃ n, j = 2 + n := ⟨j - 2, by omega⟩
      rw [yF_w _ _ _ _ _ (by omega), show 2 + n - 2 = n by omega]
      rcases (show n = i * 3 ∨ n = i * 3 + 1 by omega) with rfl | rfl
      · rw [fl3_0, fl3_0]; rfl
      · rw [fl3_1, fl3_1]; rfl
    · rw [if_neg c]
end
def zyF (i : Nat) : Value := if i = 0 then .pointer none else if i = 1 then .pointer none else if i < 451 then .int .i64 0 else .bool false
theorem zero_y : (Tryz.prog.info? 76).map (·.zero) = some (some (.agg (tab 452 zyF))) := by kernel_rfl
def placesY : List (Nat × Nat) := [(0, 1), (1, 1), (2, 147), (149, 147), (296, 8), (304, 147), (451, 1)]
theorem places_y : ∃ fs, Tryz.prog.underlying 76 = some (.struct fs) ∧ fs.toList.mapM (fun f => (Tryz.prog.info? f.type).map fun i => (f.offset, i.size)) = some placesY := ⟨_, Tryz.underlying76, by kernel_rfl⟩
theorem built_y (z f : Nat) (F : Fr) (t : Nat → En) (d : Nat → Int) :
    Tryz.prog.built 76 [(0, .pointer (some ⟨z, 0, none⟩)), (1, .pointer (some ⟨f, 0, none⟩)), (2, .agg (tabV t)), (3, .agg (tabV t)), (4, .agg (dirV d))] = some (tab 452 (yF z f ⟨F, t, t, d, fun _ => ze, false⟩ fun _ => ze)) := by
  obtain ⟨fs, hu, hp⟩ := places_y
  have hz := zero_y
  unfold Program.built
  cases hi : Tryz.prog.info? 76 with
  | none => rw [hi] at hz; cases hz
  | some it =>
    rw [hi] at hz
    have hz' : it.zero = some (.agg (tab 452 zyF)) := by simpa using hz
    rw [hu]
    simp only [hz', hp]
    show Instr.fill (fun x => placesY.toArray[x]?) (tab 452 zyF) _ = _
    rw [fill_step (fun x => placesY.toArray[x]?) 452 _ 0 (.pointer (some ⟨z, 0, none⟩)) _ 0 1 rfl rfl (by decide), fill_step (fun x => placesY.toArray[x]?) 452 _ 1 (.pointer (some ⟨f, 0, none⟩)) _ 1 1 rfl rfl (by decide), fill_step (fun x => placesY.toArray[x]?) 452 _ 2 (.agg (tabV t)) _ 2 147 rfl (tabV_size t) (by decide),
      fill_step (fun x => placesY.toArray[x]?) 452 _ 3 (.agg (tabV t)) _ 149 147 rfl (tabV_size t) (by decide), fill_step (fun x => placesY.toArray[x]?) 452 _ 4 (.agg (dirV d)) _ 296 8 rfl (dirV_size d) (by decide), Instr.fill]
    refine congrArg some (tab_ext fun i hi => ?_)
    show putV (putV (putV (putV (putV zyF 0 [.pointer (some ⟨z, 0, none⟩)]) 1 [.pointer (some ⟨f, 0, none⟩)]) 2 (tabV t).toList) 149 (tabV t).toList) 296 (dirV d).toList i = _
    unfold putV yF
    rw [Array.length_toList, Array.length_toList, tabV_size, dirV_size]
    simp only [List.length_cons, List.length_nil]
    by_cases h0 : i = 0
    · subst h0; rfl
    · rw [if_neg h0]
      by_cases h1 : i = 1
      · subst h1; rfl
      · rw [if_neg h1]
        by_cases h2 : i < 149
        · rw [if_pos h2, if_neg (by omega), if_neg (by omega), if_pos (by omega), tabV_get _ _ (by omega)]
        · rw [if_neg h2]
          by_cases h3 : i < 296
          · rw [if_pos h3, if_neg (by omega), if_pos (by omega), tabV_get _ _ (by omega)]
          · rw [if_neg h3]
            by_cases h4 : i < 304
            · rw [if_pos h4, if_pos (by omega), dirV_get _ _ (by omega)]
            · rw [if_neg h4, if_neg (by omega), if_neg (by omega), if_neg (by omega), if_neg (by omega), if_neg (by omega)]
              unfold zyF
              rw [if_neg h0, if_neg h1]
              by_cases h5 : i < 451
              · rw [if_pos h5, if_pos h5]
                unfold fl3 ze
                simp
              · rw [if_neg h5, if_neg h5]
theorem y_one (z f : Nat) (S : Sto) (K : Nat → En) : (tab 452 (yF z f S K)).all (·.oneCell') = true := by
  refine Array.all_eq_true_iff_forall_mem.2 fun v hv => ?_
  obtain ⟨i, hi, rfl⟩ := Array.mem_iff_getElem.1 hv
  rw [tab_size] at hi
  have : (tab 452 (yF z f S K))[i]? = some (yF z f S K i) := tab_get 452 _ i hi
  rw [Array.getElem?_eq_getElem (by rw [tab_size]; exact hi)] at this
  have e := Option.some.inj this
  rw [e]
  unfold yF
  repeat' split
  all_goals rfl

/-- Ints appended to a row of the call's own, in a drawn region. -/
theorem wp_append_ints {w : World} {o : Oper} {a : Act} {K : Act → World → Prop} {Q : Exit → Act → World → Prop} (s x : Operand)
    (ho : o.op = .call { callee := .builtin .append, args := #[s, x], argTypes := #[100, 100] })
    (base : Nat) (v : Value) (zs ys : List Int) (hs : a.eval s = v) (hr : RowX base v zs w) (ao : Option Addr) (c : Nat) (hx : a.eval x = .slice ao ys.length c) (hno : ao = none → ys.length = 0 ∧ c = 0) (hl : LiesI w ao ys)
    (h63 : zs.length + ys.length < 100000) (hbase : base ≤ w.heap.size)
    (h : ∀ v' w', RowX base v' (zs ++ ys) w' → w.grownBy w' v.ownBlock → K (a.put o.dst v') w') : o.wp Tryz.prog a w K Q := by
  obtain ⟨i0, hi, hz0, hz1, hz2⟩ := info_parts info_int
  refine wp_append_src s x 100 ho base 3 i0 (.int .i64 0) 1 8 Tryz.underlying100 hi hz0 hz1 hz2 rfl (by decide) v zs.length (intsX zs) hs hr ao ys.length c (intsX ys) hx hno (by simp [intsX]) ?_ (fun u hu => by simp [intsX] at hu; obtain ⟨z, _, rfl⟩ := hu; rfl) (by unfold maxLen; omega) (by omega) hbase ?_
  · intro ad had j u hj
    rcases hl with e | ⟨p, off, e, hc⟩
    · subst e; simp [intsX] at hj
    · rw [had] at e
      cases e
      have hlt : j < ys.length := by
        rcases Nat.lt_or_ge j ys.length with h' | h'
        · exact h'
        · rw [List.getElem?_eq_none (by simpa [intsX] using h')] at hj; cases hj
      have := hc j hlt
      rw [Addr.add_mid, this]
      simp [intsX, hlt] at hj
      rw [← hj, List.getD_eq_getElem?_getD, List.getElem?_eq_getElem hlt]; rfl
  · intro v' w' h1 h2 _
    refine h v' w' ?_ h2
    show w'.ownsRow base 3 1 v' (zs ++ ys).length (intsX (zs ++ ys))
    rw [List.length_append, show intsX (zs ++ ys) = intsX zs ++ intsX ys by simp [intsX]]
    exact h1
theorem keeps_app {W w w' : World} {v : Value} {zs : List Int} (hk : Keeps (fun _ => False) W w) (hr : RowX W.heap.size v zs w) (hg : w.grownBy w' v.ownBlock) : Keeps (fun _ => False) W w' := hk.grown hg (fun k e => Or.inr (hr.lt k e).1)

end Go.Proofs.YtinhnnnehhlceaaGreat


/-
  The document's Of: a store of what was committed, or an error.
-/
namespace Go.Proofs.YtinhnnnehhlceaaGreat
open Go.ChangeShapes Go.WideShapes Go.ChangeAt Go.RowKit Go.Joins
set_option maxRecDepth 100000
set_option linter.unusedVariables false
set_option linter.unusedSimpArgs false

/-- What the document takes: the lines of the table first, then the Dir's. -/
def yL (t : Nat → En) (d : Nat → Int) : List Int := linesL t ++ dirTo d 8
theorem yL_perm (t : Nat → En) (d : Nat → Int) : (yL t d).Perm (claimL t d) := List.perm_append_comm
theorem yL_len (t : Nat → En) (d : Nat → Int) : (yL t d).length ≤ 57 ∧ 0 < (yL t d).length := by
  have h1 : (linesL t).length ≤ 49 := linesTo_len t 49
  have h2 : (dirTo d 8).length = 8 := by unfold dirTo; simp
  unfold yL; rw [List.length_append, h2]; omega
theorem takesB_all (l : List Int) (F : Fr) (j : Nat) (hj : j < l.length) : l.take (j + 1) = l.take j ++ [l.getD j 0] := by
  have e : l.getD j 0 = l[j] := by rw [List.getD_eq_getElem?_getD, List.getElem?_eq_getElem hj]; rfl
  rw [List.take_succ_eq_append_getElem hj, e]
def YMade (w : World) (z : Nat) (S : Sto) (e : Ending) (w' : World) : Prop :=
  ∃ y f g, e = .returned (.tuple #[.pointer (some ⟨y, 0, none⟩), .int .i64 0]) ∧ YRep z f S (fun _ => ze) w' y ∧ RFRep w' f g S.F ∧ Keeps (fun _ => False) w w' ∧ w.heap.size ≤ y ∧ w.heap.size ≤ f ∧ w.heap.size ≤ g ∧ y ≠ f ∧ y ≠ g
def YOfPost (w : World) (z : Nat) (F : Fr) (t : Nat → En) (d : Nat → Int) (e : Ending) (w' : World) : Prop :=
  if ofB F t d = true then YMade w z (ofS F t d) e w' else e = .returned (.tuple #[.pointer none, .int .i64 21]) ∧ Keeps (fun _ => False) w w'
theorem s147_t49 (t : Nat → En) : (Tryz.prog.info? 42).map (·.size) = some (tabV t).size := by rw [tabV_size]; kernel_rfl
theorem s8_d8 (d : Nat → Int) : (Tryz.prog.info? 44).map (·.size) = some (dirV d).size := by rw [dirV_size]; kernel_rfl
theorem wpList_build5 {ops : Array Oper} {rest : List Oper} {o : Oper} {a : Act} {w : World} {Q : Exit → Act → World → Prop} (hg : o.guard = none) (t : TypeId) (x0 x1 x2 x3 x4 : Operand) (ho : o.op = .build t #[(0, x0), (1, x1), (2, x2), (3, x3), (4, x4)]) (u0 u1 u2 u3 u4 : Value) (h0 : a.eval x0 = u0) (h1 : a.eval x1 = u1) (h2 : a.eval x2 = u2) (h3 : a.eval x3 = u3) (h4 : a.eval x4 = u4) (cs : Array Value)
    (hb : Tryz.prog.built t [(0, u0), (1, u1), (2, u2), (3, u3), (4, u4)] = some cs) (h : wpList Tryz.prog ops Q rest (a.put o.dst (.agg cs)) w) : wpList Tryz.prog ops Q (o :: rest) a w := by
  subst h0 h1 h2 h3 h4
  exact wpList_build hg t #[(0, x0), (1, x1), (2, x2), (3, x3), (4, x4)] ho (by simp [hb]) (by simpa [hb] using h)

theorem yof_bad (w : World) (z n cs : Nat) (p : Option Addr) (hz : w.cell? ⟨z, 0, none⟩ = some (.slice p n cs)) (q : Int) (t : Nat → En) (d : Nat → Int) (hq : q < 0 ∨ (n : Int) < q ∨ 1024 < (n : Int)) :
    Calls Tryz.prog 12 #[.pointer (some ⟨z, 0, none⟩), .int .i64 q, .agg (tabV t), .agg (dirV d)] w fun e w' => e = .returned (.tuple #[.pointer none, .int .i64 1]) ∧ Keeps (fun _ => False) w w' := by
  have cz := (((Keeps.refl (fun _ => False) w).alloc (.cells (tabV t) 42)).alloc (.cells (dirV d) 44)).cellOf hz id
  have CN := hide (fun (w' : World) => rfnew_bad w' q (n : Int) hq)
  have hk := hide (((Keeps.refl (fun _ => False) w).alloc (.cells (tabV t) 42)).alloc (.cells (dirV d) 44))
  clear hq hz
  generalize tabV t = TV at *
  generalize dirV d = DV at *
  go_enter Tryz.func12, Tryz.ntmps12
  go_upto_region 1 with fail
  generalize (w.alloc (.cells TV 42)).alloc (.cells DV 44) = w1 at *
  go_wp2_with fail
  refine (unhide CN _).mono ?_
  rintro e w1 ⟨rfl, hw1⟩
  subst hw1
  go_wp2_with fail
  go_ret2
  exact ⟨rfl, unhide hk⟩

set_option maxHeartbeats 8000000 in
theorem yof_any (w : World) (z n cs : Nat) (p : Option Addr) (hz : w.cell? ⟨z, 0, none⟩ = some (.slice p n cs)) (lo : Nat) (t : Nat → En) (d : Nat → Int) (h1 : lo ≤ n) (h2 : n ≤ 1024) (hin : ∀ x ∈ yL t d, FIn64 x) :
    Calls Tryz.prog 12 #[.pointer (some ⟨z, 0, none⟩), .int .i64 (lo : Int), .agg (tabV t), .agg (dirV d)] w (YOfPost w z (Fr.new lo n) t d) := by
  have hka : Keeps (fun _ => False) w ((w.alloc (.cells (tabV t) 42)).alloc (.cells (dirV d) 44)) := ((Keeps.refl (fun _ => False) w).alloc _).alloc _
  have cz := hka.cellOf hz id
  have KA := hide hka
  obtain ⟨b6', b7'⟩ := heap2 w (.cells (tabV t) 42) (.cells (dirV d) 44)
  have B6 := hide b6'
  have B7 := hide b7'
  have CN := hide (fun (w' : World) => rfnew_any w' lo n h1 h2)
  have CL := hide (fun (w' : World) => rlines_any t w')
  have BY := hide (fun f => built_y z f (Fr.new lo n) t d)
  have S1 := hide (fun f => y_one z f ⟨Fr.new lo n, t, t, d, fun _ => ze, false⟩ fun _ => ze)
  have s147 := s147_t49 t
  have s8 := s8_d8 d
  have FOK := hide (new_ok h1 h2)
  have HIN := hide hin
  have HP := hide (takes_perm (yL_perm t d) (Fr.new lo n))
  have DC : Hid (∀ (w' : World) (g : Nat), w'.heap[g]? = some (.cells (dirV d) 44 (0, 0)) → LiesI w' (some ⟨g, 0, none⟩) (dirTo d 8)) := fun w' g h => Or.inr ⟨g, 0, rfl, fun i hi => by
    have hi8 : i < 8 := by unfold dirTo at hi; simpa using hi
    rw [cell_of_block h, Nat.zero_add]
    have := dirV_get d i hi8
    rw [List.getD_eq_getElem?_getD, Array.getElem?_toList] at this
    have hs : i < (dirV d).size := by rw [dirV_size]; exact hi8
    rw [Array.getElem?_eq_getElem hs] at this ⊢
    have e : (dirV d)[i] = .int .i64 (d i) := by simpa using this
    rw [e, List.getD_eq_getElem?_getD]
    unfold dirTo
    simp [hi8]⟩
  have hl8 : (dirTo d 8).length = 8 := by unfold dirTo; simp
  have hll : (linesL t).length ≤ 49 := linesTo_len t 49
  obtain ⟨TV, hTV⟩ : ∃ TV, TV = tabV t := ⟨_, rfl⟩
  obtain ⟨DV, hDV⟩ : ∃ DV, DV = dirV d := ⟨_, rfl⟩
  rw [← hTV, ← hDV] at cz KA B6 B7
  rw [← hTV] at CL s147
  rw [← hDV] at s8 DC
  rw [← hTV, ← hDV]
  have BY2 := hide (fun f => by have := unhide BY f; rw [← hTV, ← hDV] at this; exact this)
  clear hTV hDV hka hz h1 h2 b6' b7' hin BY
  go_enter Tryz.func12, Tryz.ntmps12
  go_upto_region 1 with fail
  obtain ⟨g6, hg6⟩ : ∃ g6, g6 = w.heap.size := ⟨_, rfl⟩
  obtain ⟨g7, hg7⟩ : ∃ g7, g7 = g6 + 1 := ⟨_, rfl⟩
  rw [← hg6] at B6 B7
  rw [← hg7] at B7
  simp only [← hg6, ← hg7]
  have HG6 := hide hg6
  clear hg6
  have hg67 : g6 < g7 := by omega
  clear hg7
  generalize (w.alloc (.cells TV 42)).alloc (.cells DV 44) = w1 at *
  go_wp2_with fail
  refine (unhide CN _).mono ?_
  rintro e w2 ⟨f, g, rfl, hf, hk, n1, n2, n3⟩
  have b6 := (hk.block g6 (lt_of_heapO (unhide B6)) id).trans (unhide B6)
  have b7 := (hk.block g7 (lt_of_heapO (unhide B7)) id).trans (unhide B7)
  have KB := hide ((unhide KA).trans' hk)
  have hlt7 := lt_of_heapO (unhide B7)
  have hf7 : g7 < f := by omega
  have hgg7 : g7 < g := by omega
  have HF := hide hf
  have C6 := hide b6
  have C7 := hide b7
  clear KA B6 B7 CN cz hk hf b6 b7 n1 n2 n3 hlt7
  go_upto_region 4 with fail
  refine wp_region_noPanic ?_
  refine wp_region_held_drew (S := fun w' => Keeps (fun _ => False) w2.drew w') (by kernel_rfl) (Keeps.refl _ _) (fun hHeld => ?_)
  have HF2 : Hid (RFRep w2.drew f g (Fr.new lo n)) := (unhide HF).drewN 1
  have D6 : Hid (w2.drew.heap[g6]? = some (.cells TV 42 (0, 0))) := unhide C6
  have D7 : Hid (w2.drew.heap[g7]? = some (.cells DV 44 (0, 0))) := unhide C7
  have KC : Hid (Keeps (fun _ => False) w w2.drew) := (unhide KB).drew
  have HGF : Hid (f < w2.drew.heap.size ∧ g < w2.drew.heap.size) := ⟨(unhide HF2).lt, (unhide HF2).bl.lt⟩
  clear HF C6 C7 KB
  generalize w2.drew = w3 at *
  have RT : Hid (∀ w', Keeps (fun _ => False) w3 w' → w'.rangeAt g6 0 TV.toList) := fun w' hk j v hv => by
    rw [cell_of_block ((hk.block g6 (lt_of_heapO (unhide D6)) id).trans (unhide D6)), Nat.zero_add, ← Array.getElem?_toList]; exact hv
  refine take_at 0 26 rfl rfl (by kernel_rfl) (by kernel_rfl) (by kernel_rfl) (yieldsIf_load_mid (by rfl) 42 _ rfl g6 0 rfl TV.toList _ (fun w' h => unhide RT w' h) Tryz.underlying42 rfl (by rw [Array.length_toList]; exact s147)) hHeld ?_
  simp only [Act.put, List.setIfInBounds_toArray, List.set_cons_zero, List.set_cons_succ]
  refine take_at 2 28 (v := ?_) rfl rfl (by kernel_rfl) (by kernel_rfl) (by kernel_rfl) (Or.inl ⟨by rfl, ?_⟩) hHeld ?_
  rotate_left
  · intro w hSw; go_simp; with_reducible rfl
  simp only [Act.put, List.setIfInBounds_toArray, List.set_cons_zero, List.set_cons_succ]
  refine wpAnyH_ready (rs := [1]) (by kernel_rfl) (by simp) ?_
  refine AllReadyH.cons rfl (fun K hK => ?_) AllReadyH.nil
  go_simp
  refine (unhide CL _).mono ?_
  rintro e w4 ⟨v, rfl, hk, hr⟩
  go_wp2_with fail
  have HV := hide hHeld
  clear hHeld
  refine hK.out _ _ ((unhide HV).trans' hk) (fun hNew => ?_)
  clear hK K
  have HR := hide hr
  have HK4 := hide hk
  have hHeld := hNew
  clear hNew hr hk
  refine wpAnyH_ready (rs := [3]) (by kernel_rfl) (by simp) ?_
  refine AllReadyH.cons rfl (fun K hK => ?_) AllReadyH.nil
  refine (if_pos (by rfl)).mpr ?_
  refine wp_append_ints (.tmp 27) (.tmp 28) rfl w3.heap.size v (linesL t) (dirTo d 8) rfl (unhide HR) (some ⟨g7, 0, none⟩) 8 rfl (fun h => by cases h) (unhide DC _ _ (((unhide HK4).block g7 (lt_of_heapO (unhide D7)) id).trans (unhide D7))) (by omega) (unhide HK4).size ?_
  intro v5 w5 hr5 hg5
  have hkv := keeps_app (unhide HK4) (unhide HR) hg5
  refine hK.out _ _ ((unhide HV).trans' hkv) (fun hNew => ?_)
  have HV5 := hide hNew
  obtain ⟨B, hB⟩ : ∃ B, B = w3.heap.size := ⟨_, rfl⟩
  rw [← hB] at hr5
  have hbase : w3.heap.size ≤ B := by omega
  clear hHeld hK K hkv hB hg5 HR HK4 HV CL
  have hHeld := hNew
  clear hNew
  refine take_at 4 12 (v := ?_) rfl rfl (by kernel_rfl) (by kernel_rfl) (by kernel_rfl) (Or.inl ⟨by rfl, ?_⟩) hHeld ?_
  rotate_left
  · intro w hSw; go_simp; with_reducible rfl
  simp only [Act.put, List.setIfInBounds_toArray, List.set_cons_zero, List.set_cons_succ]
  clear hHeld
  refine wpAnyH_done (by kernel_rfl) ?_ _
  refine NoPanic.normal ?_
  have HR5 : Hid (RowX B v5 (yL t d) w5) := hr5
  have HF5 : Hid (RFRep w5 f g (Fr.new lo n)) := (unhide HF2).keeps (unhide HV5) id id
  have E6 : Hid (w5.heap[g6]? = some (.cells TV 42 (0, 0))) := ((unhide HV5).block g6 (lt_of_heapO (unhide D6)) id).trans (unhide D6)
  have E7 : Hid (w5.heap[g7]? = some (.cells DV 44 (0, 0))) := ((unhide HV5).block g7 (lt_of_heapO (unhide D7)) id).trans (unhide D7)
  have K5 := hide ((unhide KC).trans' (unhide HV5))
  obtain ⟨hfB, hgB⟩ := unhide HGF
  obtain ⟨l57, l0⟩ := yL_len t d
  obtain ⟨l, hl⟩ : ∃ l, l = yL t d := ⟨_, rfl⟩
  rw [← hl] at HR5 HIN HP l57 l0
  have HL := hide hl
  clear hr5 HF2 D6 D7 KC HGF HV5 RT DC hl
  obtain ⟨x, cap, rfl, hxB, hcap, hxc⟩ := (unhide HR5).cell (by intro e; rw [e] at l0; simp at l0)
  have HXC := hide hxc
  have hxg : x ≠ g := by omega
  clear hxc
  go_wp2_with fail
  go_loopw [13] (fun q wr => ∃ j : Nat, j ≤ l.length ∧ q = .int .i64 j ∧ (Fr.new lo n).takesB (l.take j) = true ∧ RFRep wr f g ((Fr.new lo n).takeL (l.take j)) ∧ Keeps (· = g) w5 wr) (fun q _ => l.length - (intOf q).toNat)
  case atStart => exact ⟨0, by omega, rfl, by rw [List.take_zero]; rfl, by rw [List.take_zero]; exact unhide HF5, Keeps.refl _ _⟩
  case round =>
    clear HF5
    obtain ⟨j, hj, rfl, hb, hh, hk⟩ := hrel
    have HH := hide hh
    have HB := hide hb
    have HK := hide hk
    clear hh hb hk
    by_cases hlt : j < l.length
    · have hjl : (j : Int) < (l.length : Int) := by omega
      have cx := (unhide HK).cellOf (unhide HXC j hlt) hxg
      have hfi : FIn64 (l.getD j 0) := unhide HIN _ (by rw [List.getD_eq_getElem?_getD, List.getElem?_eq_getElem hlt]; exact List.getElem_mem hlt)
      have CT := hide (rftake_any (unhide HH) (takeL_ok (l.take j) (unhide FOK)) (l.getD j 0) hfi)
      have EA : Hid (((Fr.new lo n).takeL (l.take j)).turnA (l.getD j 0) 0 1 = (Fr.new lo n).takeL (l.take (j + 1))) := by show _ = _; rw [takesB_all l (Fr.new lo n) j hlt, takeL_snoc]
      have EB : Hid ((Fr.new lo n).takesB (l.take (j + 1)) = decide (((Fr.new lo n).takeL (l.take j)).turnE (l.getD j 0) 0 = 0)) := by show _ = _; rw [takesB_all l (Fr.new lo n) j hlt, takesB_snoc, unhide HB, Bool.true_and]
      rw [unhide EA] at CT
      generalize ((Fr.new lo n).takeL (l.take j)).turnE (l.getD j 0) 0 = E at *
      generalize l.getD j 0 = zj at *
      clear hfi EA
      by_cases hE : E = 0
      · subst hE
        have HB2 : Hid ((Fr.new lo n).takesB (l.take (j + 1)) = true) := by show _ = _; rw [unhide EB]; rfl
        clear EB HB
        go_wp2_with fail
        refine (unhide CT).mono ?_
        rintro e w7 ⟨rfl, h1, h2⟩
        have H1 := hide h1
        have H2 := hide ((unhide HK).trans' h2)
        clear h1 h2 CT HH HK cx
        go_wp2_with fail
        go_roundw
        case rel => exact ⟨j + 1, by omega, by go_num, unhide HB2, unhide H1, unhide H2⟩
        case measure => simp [intOf]; omega
      · have hE1 : (E != 0) = true := by simpa using hE
        have HF : Hid (ofB (Fr.new lo n) t d = false) := by
          have h1 : (Fr.new lo n).takesB (l.take (j + 1)) = false := by rw [unhide EB]; simpa using hE
          have h2 := takesB_part (l.take (j + 1)) (l.drop (j + 1)) _ h1
          rw [List.take_append_drop] at h2
          show (Fr.new lo n).takesB (claimL t d) = false
          rw [← (unhide HP).1]; exact h2
        clear hE EB
        go_wp2_with fail
        refine (unhide CT).mono ?_
        rintro e w7 ⟨rfl, h1, h2⟩
        have H2 := hide ((unhide HK).trans' h2)
        clear h1 h2 CT HH HK cx
        go_wp2_with fail
        go_ret2
        unfold YOfPost
        rw [if_neg (by rw [unhide HF]; decide)]
        exact ⟨rfl, (unhide K5).trans (fun k e => Or.inr (by have := (unhide HG6); omega)) (unhide H2)⟩
    · have ej : j = l.length := by omega
      have hge : ¬ ((j : Int) < (l.length : Int)) := by omega
      have et : l.take j = l := by rw [ej, List.take_length]
      rw [et] at HB HH
      have HT : Hid (ofB (Fr.new lo n) t d = true) := by
        show (Fr.new lo n).takesB (claimL t d) = true
        rw [← (unhide HP).1]; exact unhide HB
      have EF : Hid ((Fr.new lo n).takeL l = (ofS (Fr.new lo n) t d).F) := (unhide HP).2 (unhide HB)
      have BYf := hide (unhide BY2 f)
      have S1f := hide (unhide S1 f)
      have b6 : wr.heap[g6]? = some (.cells TV 42 (0, 0)) := ((unhide HK).block g6 (lt_of_heapO (unhide E6)) (by omega)).trans (unhide E6)
      have b7 : wr.heap[g7]? = some (.cells DV 44 (0, 0)) := ((unhide HK).block g7 (lt_of_heapO (unhide E7)) (by omega)).trans (unhide E7)
      have RT : Hid (wr.rangeAt g6 0 TV.toList) := fun j v hv => by rw [cell_of_block b6, Nat.zero_add, ← Array.getElem?_toList]; exact hv
      have RD : Hid (wr.rangeAt g7 0 DV.toList) := fun j v hv => by rw [cell_of_block b7, Nat.zero_add, ← Array.getElem?_toList]; exact hv
      have KE := hide ((unhide K5).trans (F := fun _ => False) (fun k e => Or.inr (by have := (unhide HG6); omega)) (unhide HK))
      have HSZ : Hid (f < wr.heap.size ∧ g < wr.heap.size ∧ w.heap.size ≤ f ∧ w.heap.size ≤ g) := ⟨(unhide HH).lt, (unhide HH).bl.lt, by have := unhide HG6; omega, by have := unhide HG6; omega⟩
      generalize hYV : (fun f => tab 452 (yF z f ⟨Fr.new lo n, t, t, d, fun _ => ze, false⟩ fun _ => ze)) = YV at *
      clear b6 b7 HB HK E6 E7 BY2 S1 HIN HP HXC HR5 et ej hlt
      go_upto_region 10 with fail
      go_wp2_with (first | (with_reducible refine wpList_load_mid (by with_unfolding_all rfl) 42 _ (by with_unfolding_all rfl) g6 0 (by with_unfolding_all rfl) TV.toList _ (unhide RT) Tryz.underlying42 (by with_unfolding_all rfl) (by rw [Array.length_toList]; exact s147) ?_) | (with_reducible refine wpList_load_mid (by with_unfolding_all rfl) 44 _ (by with_unfolding_all rfl) g7 0 (by with_unfolding_all rfl) DV.toList _ (unhide RD) Tryz.underlying44 (by with_unfolding_all rfl) (by rw [Array.length_toList]; exact s8) ?_) | (with_reducible refine wpList_build5 (by with_unfolding_all rfl) 76 _ _ _ _ _ (by with_unfolding_all rfl) (.pointer (some ⟨z, 0, none⟩)) (.pointer (some ⟨f, 0, none⟩)) (.agg TV) (.agg TV) (.agg DV) (by with_unfolding_all rfl) (by with_unfolding_all rfl) (by with_unfolding_all rfl) (by with_unfolding_all rfl) (by with_unfolding_all rfl) _ (unhide BYf) ?_; generalize hSV : tab 452 (yF z f ⟨Fr.new lo n, t, t, d, fun _ => ze, false⟩ fun _ => ze) = SV at *))
      go_ret2
      unfold YOfPost
      rw [if_pos (unhide HT)]
      obtain ⟨s1, s2, s3, s4⟩ := unhide HSZ
      refine ⟨wr.heap.size, f, g, rfl, ?_, ?_, (unhide KE).alloc _, (unhide KE).size, s3, s4, by omega, by omega⟩
      · refine Blk.of_tab ?_
        show _ = some (Obj.cells (tab 452 (yF z f ⟨Fr.new lo n, t, t, d, fun _ => ze, false⟩ fun _ => ze)) _ _)
        rw [hSV]
        exact heap_new _ _
      · rw [← unhide EF]
        exact (unhide HH).keeps ((Keeps.refl (fun _ => False) _).alloc _) id id

end Go.Proofs.YtinhnnnehhlceaaGreat
