
/-
  How the document's store of objects lies: one block of 452 cells (the memory's pointer, the frames' pointer, the working table, the base, its Dir, what was marked, whether something is).
-/
import Derived.Test.YtjmgmbigbkllgaaYLines
import Derived.Test.YtjmgmbigbkllgaaOBuilt
import Derived.Test.YtjmgmbigbkllgaaFRef
import Derived.Test.YtjmgmbigbkllgaaPkRef
namespace Go.Proofs.Ytjmgmbigbkllgaa
open Go.ChangeShapes Go.WideShapes Go.ChangeAt Go.RowKit Go.Joins
set_option maxRecDepth 100000
set_option linter.unusedVariables false
set_option linter.unusedSimpArgs false

def yF (z f : Nat) (S : Sto) (K : Nat → En) (i : Nat) : Value :=
  if i = 0 then .pointer (some ⟨z, 0, none⟩) else if i = 1 then .pointer (some ⟨f, 0, none⟩) else if i < 149 then .int .i64 (fl3 S.w (i - 2)) else if i < 296 then .int .i64 (fl3 S.b (i - 149))
  else if i < 304 then .int .i64 (S.d (i - 296)) else if i < 451 then .int .i64 (fl3 K (i - 304)) else .bool S.is
def YRep (z f : Nat) (S : Sto) (K : Nat → En) (w : World) (y : Nat) : Prop := Blk w y 452 102 (yF z f S K)
theorem yF_w (z f : Nat) (S : Sto) (K : Nat → En) (j : Nat) (h : j < 147) : yF z f S K (2 + j) = .int .i64 (fl3 S.w j) := by
  unfold yF; rw [if_neg (by omega), if_neg (by omega), if_pos (by omega), show 2 + j - 2 = j by omega]
theorem yF_b (z f : Nat) (S : Sto) (K : Nat → En) (j : Nat) (h : j < 147) : yF z f S K (149 + j) = .int .i64 (fl3 S.b j) := by
  unfold yF; rw [if_neg (by omega), if_neg (by omega), if_neg (by omega), if_pos (by omega), show 149 + j - 149 = j by omega]
theorem yF_d (z f : Nat) (S : Sto) (K : Nat → En) (j : Nat) (h : j < 8) : yF z f S K (296 + j) = .int .i64 (S.d j) := by
  unfold yF; rw [if_neg (by omega), if_neg (by omega), if_neg (by omega), if_neg (by omega), if_pos (by omega), show 296 + j - 296 = j by omega]
theorem yF_k (z f : Nat) (S : Sto) (K : Nat → En) (j : Nat) (h : j < 147) : yF z f S K (304 + j) = .int .i64 (fl3 K j) := by
  unfold yF; rw [if_neg (by omega), if_neg (by omega), if_neg (by omega), if_neg (by omega), if_neg (by omega), if_pos (by omega), show 304 + j - 304 = j by omega]
theorem yF_is (z f : Nat) (S : Sto) (K : Nat → En) : yF z f S K 451 = .bool S.is := rfl
section
variable {z f y : Nat} {S : Sto} {K : Nat → En} {w : World}
theorem YRep.c0 (h : YRep z f S K w y) : w.cell? ⟨y, 0, none⟩ = some (.pointer (some ⟨z, 0, none⟩)) := Blk.cell h 0 (by decide)
theorem YRep.c1 (h : YRep z f S K w y) : w.cell? ⟨y, 1, none⟩ = some (.pointer (some ⟨f, 0, none⟩)) := Blk.cell h 1 (by decide)
theorem YRep.cis (h : YRep z f S K w y) : w.cell? ⟨y, 451, none⟩ = some (.bool S.is) := Blk.cell h 451 (by decide)
theorem YRep.rw (h : YRep z f S K w y) : w.rangeAt y 2 (tabV S.w).toList := by rw [tabV_list]; exact Blk.range h 2 147 (by decide) _ fun j hj => yF_w z f S K j hj
theorem YRep.rb (h : YRep z f S K w y) : w.rangeAt y 149 (tabV S.b).toList := by rw [tabV_list]; exact Blk.range h 149 147 (by decide) _ fun j hj => yF_b z f S K j hj
theorem YRep.rk (h : YRep z f S K w y) : w.rangeAt y 304 (tabV K).toList := by rw [tabV_list]; exact Blk.range h 304 147 (by decide) _ fun j hj => yF_k z f S K j hj
theorem YRep.rd (h : YRep z f S K w y) : w.rangeAt y 296 (dirV S.d).toList := by rw [dirV_list]; exact Blk.range h 296 8 (by decide) _ fun j hj => yF_d z f S K j hj
theorem YRep.ck (h : YRep z f S K w y) (i : Nat) (hi : i < 49) : w.cell? ⟨y, 2 + i * 3, none⟩ = some (.int .i64 (S.w i).k) := by
  rw [Blk.cell h _ (by omega), yF_w _ _ _ _ _ (by omega), fl3_0]
theorem YRep.cv (h : YRep z f S K w y) (i : Nat) (hi : i < 49) : w.cell? ⟨y, 2 + i * 3 + 1, none⟩ = some (.int .i64 (S.w i).v) := by
  rw [Blk.cell h _ (by omega), show 2 + i * 3 + 1 = 2 + (i * 3 + 1) by omega, yF_w _ _ _ _ _ (by omega), fl3_1]
theorem YRep.cl (h : YRep z f S K w y) (i : Nat) (hi : i < 49) : w.cell? ⟨y, 2 + i * 3 + 2, none⟩ = some (.int .i64 (S.w i).l) := by
  rw [Blk.cell h _ (by omega), show 2 + i * 3 + 2 = 2 + (i * 3 + 2) by omega, yF_w _ _ _ _ _ (by omega), fl3_2]
theorem YRep.cd (h : YRep z f S K w y) (i : Nat) (hi : i < 8) : w.cell? ⟨y, 296 + i, none⟩ = some (.int .i64 (S.d i)) := by
  rw [Blk.cell h _ (by omega), yF_d _ _ _ _ _ hi]
theorem YRep.en (h : YRep z f S K w y) (i : Nat) (hi : i < 49) : w.rangeAt y (2 + i * 3) (ev (S.w i)).toList := fun j v hv => by
  rw [ev_list] at hv
  match j, hv with
  | 0, hv => show w.cell? ⟨y, 2 + i * 3, none⟩ = _; rw [h.ck i hi]; simpa using hv
  | 1, hv => rw [h.cv i hi]; simpa using hv
  | 2, hv => rw [h.cl i hi]; simpa using hv
  | j + 3, hv => simp at hv
theorem YRep.fr (h : YRep z f S K w y) (i : Nat) : w.frozen? ⟨y, i, none⟩ = false := Blk.free h i
theorem YRep.keeps {F : Nat → Prop} {w' : World} (h : YRep z f S K w y) (hk : Keeps F w w') (hc : ¬ F y) : YRep z f S K w' y := Blk.keeps h hk hc
theorem YRep.lt (h : YRep z f S K w y) : y < w.heap.size := Blk.lt h
theorem YRep.putK (h : YRep z f S K w y) (K' : Nat → En) : YRep z f S K' (w.setCells y 304 (tabV K').toList) y := by
  refine (Blk.sets (tabV K').toList w _ 304 h).ext fun j hj => ?_
  rw [Array.length_toList, tabV_size]
  by_cases c : 304 ≤ j ∧ j < 304 + 147
  · obtain ⟨n, rfl⟩ : ∃ n, j = 304 + n := ⟨j - 304, by omega⟩
    rw [if_pos c, show 304 + n - 304 = n by omega, tabV_get K' n (by omega), yF_k _ _ _ _ _ (by omega)]
  · rw [if_neg c]
    unfold yF
    repeat' split
    all_goals first | rfl | omega
theorem YRep.putB (h : YRep z f S K w y) (g : Nat → En) : YRep z f ⟨S.F, S.w, g, S.d, S.k, S.is⟩ K (w.setCells y 149 (tabV g).toList) y := by
  refine (Blk.sets (tabV g).toList w _ 149 h).ext fun j hj => ?_
  rw [Array.length_toList, tabV_size]
  by_cases c : 149 ≤ j ∧ j < 149 + 147
  · obtain ⟨n, rfl⟩ : ∃ n, j = 149 + n := ⟨j - 149, by omega⟩
    rw [if_pos c, show 149 + n - 149 = n by omega, tabV_get g n (by omega), yF_b _ _ _ _ _ (by omega)]
  · rw [if_neg c]
    unfold yF
    repeat' split
    all_goals first | rfl | omega
theorem YRep.putD (h : YRep z f S K w y) (d : Nat → Int) : YRep z f ⟨S.F, S.w, S.b, d, S.k, S.is⟩ K (w.setCells y 296 (dirV d).toList) y := by
  refine (Blk.sets (dirV d).toList w _ 296 h).ext fun j hj => ?_
  rw [Array.length_toList, dirV_size]
  by_cases c : 296 ≤ j ∧ j < 296 + 8
  · obtain ⟨n, rfl⟩ : ∃ n, j = 296 + n := ⟨j - 296, by omega⟩
    rw [if_pos c, show 296 + n - 296 = n by omega, dirV_get d n (by omega), yF_d _ _ _ _ _ (by omega)]
  · rw [if_neg c]
    unfold yF
    repeat' split
    all_goals first | rfl | omega
theorem YRep.putIs (h : YRep z f S K w y) (x : Bool) : YRep z f ⟨S.F, S.w, S.b, S.d, S.k, x⟩ K (w.setCell ⟨y, 451, none⟩ (.bool x)) y := by
  refine (Blk.set h 451 (.bool x)).ext fun j hj => ?_
  by_cases e : j = 451
  · subst e; rw [upd_same]; rfl
  · rw [upd_other _ _ _ _ e]
    unfold yF
    repeat' split
    all_goals first | rfl | omega
theorem yF_withW (z f : Nat) (S : Sto) (K : Nat → En) (i : Nat) (x : En) (j : Nat) : yF z f (S.withW i x) K j = if 2 ≤ j ∧ j < 149 ∧ (j - 2) / 3 = i then .int .i64 (fl3 (fun _ => x) (j - 2)) else yF z f S K j := by
  unfold yF Sto.withW
  by_cases h0 : j = 0
  · rw [if_pos h0, if_pos h0, if_neg (by omega)]
  · rw [if_neg h0, if_neg h0]
    by_cases h1 : j = 1
    · rw [if_pos h1, if_pos h1, if_neg (by omega)]
    · rw [if_neg h1, if_neg h1]
      by_cases h2 : j < 149
      · rw [if_pos h2, if_pos h2, fl3_upd]
        by_cases h3 : (j - 2) / 3 = i
        · rw [if_pos h3, if_pos ⟨by omega, h2, h3⟩]
        · rw [if_neg h3, if_neg (fun q => h3 q.2.2)]
      · rw [if_neg h2, if_neg h2, if_neg (show ¬ (2 ≤ j ∧ j < 149 ∧ (j - 2) / 3 = i) by omega)]
theorem YRep.withW (h : YRep z f S K w y) (i : Nat) (hi : i < 49) (x : En) : YRep z f (S.withW i x) K (w.setCells y (2 + i * 3) (ev x).toList) y := by
  refine (Blk.sets (ev x).toList w _ (2 + i * 3) h).ext fun j hj => ?_
  rw [yF_withW, ev_list]
  by_cases c : 2 + i * 3 ≤ j ∧ j < 2 + i * 3 + 3
  · rw [if_pos (by simpa using c), if_pos ⟨by omega, by omega, by omega⟩]
    rcases (show j = 2 + i * 3 ∨ j = 2 + i * 3 + 1 ∨ j = 2 + i * 3 + 2 by omega) with rfl | rfl | rfl
    · rw [show 2 + i * 3 - (2 + i * 3) = 0 by omega, show 2 + i * 3 - 2 = i * 3 by omega, fl3_0]; rfl
    · rw [show 2 + i * 3 + 1 - (2 + i * 3) = 1 by omega, show 2 + i * 3 + 1 - 2 = i * 3 + 1 by omega, fl3_1]; rfl
    · rw [show 2 + i * 3 + 2 - (2 + i * 3) = 2 by omega, show 2 + i * 3 + 2 - 2 = i * 3 + 2 by omega, fl3_2]; rfl
  · rw [if_neg (by simpa using c), if_neg (by omega)]
theorem YRep.line (h : YRep z f S K w y) (i : Nat) (hi : i < 49) (l : Int) : YRep z f (S.withW i (moved (S.w i) l)) K (w.setCell ⟨y, 2 + i * 3 + 2, none⟩ (.int .i64 l)) y := by
  refine (Blk.set h (2 + i * 3 + 2) (.int .i64 l)).ext fun j hj => ?_
  rw [yF_withW]
  by_cases e : j = 2 + i * 3 + 2
  · subst e
    rw [upd_same, if_pos ⟨by omega, by omega, by omega⟩, show 2 + i * 3 + 2 - 2 = i * 3 + 2 by omega, fl3_2]; rfl
  · rw [upd_other _ _ _ _ e]
    by_cases c : 2 ≤ j ∧ j < 149 ∧ (j - 2) / 3 = i
    · rw [if_pos c]
      obtain ⟨n, rfl⟩ : ∃ n, j = 2 + n := ⟨j - 2, by omega⟩
      rw [yF_w _ _ _ _ _ (by omega), show 2 + n - 2 = n by omega]
      rcases (show n = i * 3 ∨ n = i * 3 + 1 by omega) with rfl | rfl
      · rw [fl3_0, fl3_0]; rfl
      · rw [fl3_1, fl3_1]; rfl
    · rw [if_neg c]
end
def zyF (i : Nat) : Value := if i = 0 then .pointer none else if i = 1 then .pointer none else if i < 451 then .int .i64 0 else .bool false
theorem zero_y : (Try.prog.info? 102).map (·.zero) = some (some (.agg (tab 452 zyF))) := by kernel_rfl
def placesY : List (Nat × Nat) := [(0, 1), (1, 1), (2, 147), (149, 147), (296, 8), (304, 147), (451, 1)]
theorem places_y : ∃ fs, Try.prog.underlying 102 = some (.struct fs) ∧ fs.toList.mapM (fun f => (Try.prog.info? f.type).map fun i => (f.offset, i.size)) = some placesY := ⟨_, Try.underlying102, by kernel_rfl⟩
theorem built_y (z f : Nat) (F : Fr) (t : Nat → En) (d : Nat → Int) :
    Try.prog.built 102 [(0, .pointer (some ⟨z, 0, none⟩)), (1, .pointer (some ⟨f, 0, none⟩)), (2, .agg (tabV t)), (3, .agg (tabV t)), (4, .agg (dirV d))] = some (tab 452 (yF z f ⟨F, t, t, d, fun _ => ze, false⟩ fun _ => ze)) := by
  obtain ⟨fs, hu, hp⟩ := places_y
  have hz := zero_y
  unfold Program.built
  cases hi : Try.prog.info? 102 with
  | none => rw [hi] at hz; cases hz
  | some it =>
    rw [hi] at hz
    have hz' : it.zero = some (.agg (tab 452 zyF)) := by simpa using hz
    rw [hu]
    simp only [hz', hp]
    show Instr.fill (fun x => placesY.toArray[x]?) (tab 452 zyF) _ = _
    rw [fill_step (fun x => placesY.toArray[x]?) 452 _ 0 (.pointer (some ⟨z, 0, none⟩)) _ 0 1 rfl rfl (by decide), fill_step (fun x => placesY.toArray[x]?) 452 _ 1 (.pointer (some ⟨f, 0, none⟩)) _ 1 1 rfl rfl (by decide), fill_step (fun x => placesY.toArray[x]?) 452 _ 2 (.agg (tabV t)) _ 2 147 rfl (tabV_size t) (by decide),
      fill_step (fun x => placesY.toArray[x]?) 452 _ 3 (.agg (tabV t)) _ 149 147 rfl (tabV_size t) (by decide), fill_step (fun x => placesY.toArray[x]?) 452 _ 4 (.agg (dirV d)) _ 296 8 rfl (dirV_size d) (by decide), Instr.fill]
    refine congrArg some (tab_ext fun i hi => ?_)
    show putV (putV (putV (putV (putV zyF 0 [.pointer (some ⟨z, 0, none⟩)]) 1 [.pointer (some ⟨f, 0, none⟩)]) 2 (tabV t).toList) 149 (tabV t).toList) 296 (dirV d).toList i = _
    unfold putV yF
    rw [Array.length_toList, Array.length_toList, tabV_size, dirV_size]
    simp only [List.length_cons, List.length_nil]
    by_cases h0 : i = 0
    · subst h0; rfl
    · rw [if_neg h0]
      by_cases h1 : i = 1
      · subst h1; rfl
      · rw [if_neg h1]
        by_cases h2 : i < 149
        · rw [if_pos h2, if_neg (by omega), if_neg (by omega), if_pos (by omega), tabV_get _ _ (by omega)]
        · rw [if_neg h2]
          by_cases h3 : i < 296
          · rw [if_pos h3, if_neg (by omega), if_pos (by omega), tabV_get _ _ (by omega)]
          · rw [if_neg h3]
            by_cases h4 : i < 304
            · rw [if_pos h4, if_pos (by omega), dirV_get _ _ (by omega)]
            · rw [if_neg h4, if_neg (by omega), if_neg (by omega), if_neg (by omega), if_neg (by omega), if_neg (by omega)]
              unfold zyF
              rw [if_neg h0, if_neg h1]
              by_cases h5 : i < 451
              · rw [if_pos h5, if_pos h5]
                unfold fl3 ze
                simp
              · rw [if_neg h5, if_neg h5]
theorem y_one (z f : Nat) (S : Sto) (K : Nat → En) : (tab 452 (yF z f S K)).all (·.oneCell') = true := by
  refine Array.all_eq_true_iff_forall_mem.2 fun v hv => ?_
  obtain ⟨i, hi, rfl⟩ := Array.mem_iff_getElem.1 hv
  rw [tab_size] at hi
  have : (tab 452 (yF z f S K))[i]? = some (yF z f S K i) := tab_get 452 _ i hi
  rw [Array.getElem?_eq_getElem (by rw [tab_size]; exact hi)] at this
  have e := Option.some.inj this
  rw [e]
  unfold yF
  repeat' split
  all_goals rfl

/-- Ints appended to a row of the call's own, in a drawn region. -/
theorem wp_append_ints {w : World} {o : Oper} {a : Act} {K : Act → World → Prop} {Q : Exit → Act → World → Prop} (s x : Operand)
    (ho : o.op = .call { callee := .builtin .append, args := #[s, x], argTypes := #[72, 72] })
    (base : Nat) (v : Value) (zs ys : List Int) (hs : a.eval s = v) (hr : RowX base v zs w) (ao : Option Addr) (c : Nat) (hx : a.eval x = .slice ao ys.length c) (hno : ao = none → ys.length = 0 ∧ c = 0) (hl : LiesI w ao ys)
    (h63 : zs.length + ys.length < 100000) (hbase : base ≤ w.heap.size)
    (h : ∀ v' w', RowX base v' (zs ++ ys) w' → w.grownBy w' v.ownBlock → K (a.put o.dst v') w') : o.wp Try.prog a w K Q := by
  obtain ⟨i0, hi, hz0, hz1, hz2⟩ := info_parts info_int
  refine wp_append_src s x 72 ho base 3 i0 (.int .i64 0) 1 8 Try.underlying72 hi hz0 hz1 hz2 rfl (by decide) v zs.length (intsX zs) hs hr ao ys.length c (intsX ys) hx hno (by simp [intsX]) ?_ (fun u hu => by simp [intsX] at hu; obtain ⟨z, _, rfl⟩ := hu; rfl) (by unfold maxLen; omega) (by omega) hbase ?_
  · intro ad had j u hj
    rcases hl with e | ⟨p, off, e, hc⟩
    · subst e; simp [intsX] at hj
    · rw [had] at e
      cases e
      have hlt : j < ys.length := by
        rcases Nat.lt_or_ge j ys.length with h' | h'
        · exact h'
        · rw [List.getElem?_eq_none (by simpa [intsX] using h')] at hj; cases hj
      have := hc j hlt
      rw [Addr.add_mid, this]
      simp [intsX, hlt] at hj
      rw [← hj, List.getD_eq_getElem?_getD, List.getElem?_eq_getElem hlt]; rfl
  · intro v' w' h1 h2 _
    refine h v' w' ?_ h2
    show w'.ownsRow base 3 1 v' (zs ++ ys).length (intsX (zs ++ ys))
    rw [List.length_append, show intsX (zs ++ ys) = intsX zs ++ intsX ys by simp [intsX]]
    exact h1
theorem keeps_app {W w w' : World} {v : Value} {zs : List Int} (hk : Keeps (fun _ => False) W w) (hr : RowX W.heap.size v zs w) (hg : w.grownBy w' v.ownBlock) : Keeps (fun _ => False) W w' := hk.grown hg (fun k e => Or.inr (hr.lt k e).1)

end Go.Proofs.Ytjmgmbigbkllgaa
