
/-
  For every row of cores and every number of cores that are asked for, RlogOrder returns true and leaves its arguments as they were: records are told by rising numbers, whichever cores journalled them, and just those of the cores that are asked for. No condition.
-/
import Derived.Test.YtjidekjeibdbgaaPkScan
import Derived.Test.YtjidekjeibdbgaaRKind
import Derived.Test.YtjidekjeibdbgaaRows
import Derived.Deep.Cut
namespace Go.Proofs.Ytjidekjeibdbgaa.rlogOrder
open Go.ChangeShapes Go.WideShapes Go.ChangeAt Go.RowKit Go.Joins
set_option linter.unusedVariables false
set_option linter.unusedSimpArgs false
set_option maxRecDepth 100000

def mk (q : Int) : Rc := ⟨q, 0, 0, 0⟩
theorem recs_upd (f : Nat → Option Rc) (p : Nat) (r : Rc) (hp : f p = none) : ∀ N, (recsF (upd f p (some r)) N).Perm (if 2 ≤ p ∧ p < 2 + N then r :: recsF f N else recsF f N)
  | 0 => by rw [if_neg (by omega)]; exact List.Perm.refl _
  | N + 1 => by
    have ih := recs_upd f p r hp N
    unfold recsF
    by_cases h1 : p = 2 + N
    · subst h1
      rw [if_neg (by omega)] at ih
      rw [if_pos (by omega), upd_same, hp]
      simp only [Option.toList_none, Option.toList_some, List.append_nil]
      exact (ih.append_right _).trans (List.perm_append_comm)
    · rw [upd_other f p (some r) (2 + N) (fun e => h1 e.symm)]
      by_cases h2 : 2 ≤ p ∧ p < 2 + N
      · rw [if_pos h2] at ih
        rw [if_pos (by omega)]
        exact ih.append_right _
      · rw [if_neg h2] at ih
        rw [if_neg (by omega)]
        exact ih.append_right _
theorem sortR_spec (rs : List Rc) : (sortR rs).Perm rs ∧ (sortR rs).Pairwise fun a b => a.q ≤ b.q := by
  obtain ⟨t1, t2, t3⟩ := fold_tagged rs 0 [] List.Pairwise.nil (by simp)
  have e : sortR rs = ((tagged rs 0).foldl insTg []).map fT := t3.symm
  rw [e]
  constructor
  · have := t2.map fT
    rw [List.nil_append, tagged_map] at this
    exact this
  · rw [List.pairwise_map]
    refine List.Pairwise.imp (fun {a b} h => ?_) t1
    rw [lxB_niff] at h
    show a.1.q ≤ b.1.q
    omega
theorem sortR_is (rs : List Rc) (ws : List Int) (hp : rs.Perm (ws.map mk)) (hs : ws.Pairwise (· < ·)) : sortR rs = ws.map mk := by
  obtain ⟨h1, h2⟩ := sortR_spec rs
  have h3 : (sortR rs).Perm (ws.map mk) := h1.trans hp
  refine h3.eq_of_pairwise (le := fun a b => a.q ≤ b.q) (fun a b ha hb q1 q2 => ?_) h2 ?_
  · obtain ⟨x, hx, rfl⟩ := List.mem_map.1 (h3.mem_iff.1 ha)
    obtain ⟨y, hy, rfl⟩ := List.mem_map.1 hb
    have : x = y := by simp [mk] at q1 q2; omega
    rw [this]
  · rw [List.pairwise_map]
    exact hs.imp (fun {a b} h => by show a ≤ b; omega)
/-- What the loop keeps. -/
structure Inv (k i : Nat) (A : Mm) (ws : List Int) : Prop where
  ok : A.ok (11 * i)
  fz : A.fuse = -1
  lg : ∃ f, Log A f ∧ (recsF f (4 * k)).Perm (ws.map mk)
  up : ws.Pairwise (· < ·)
  lo : ∀ q ∈ ws, 50 - (i : Int) < q
  ln : ws.length ≤ i
theorem inv_zero (k : Nat) : Inv k 0 s0 [] := by
  refine ⟨ok_mono (ok_new (by decide) (by decide) (fun _ _ => ⟨by decide, by decide⟩)) (by omega), rfl, ⟨fun _ => none, log_new, ?_⟩, List.Pairwise.nil, by simp, by simp⟩
  have : ∀ N, recsF (fun _ => none) N = [] := fun N => by
    induction N with
    | zero => rfl
    | succ N ih => unfold recsF; rw [ih]; rfl
  rw [this]; exact List.Perm.refl _
theorem mk_may (i : Nat) (hi : i < 8) : mayR (mk (50 - (i : Int))) = true := by
  simp [mayR, mk]; omega
theorem mk_ok (q : Int) : (mk q).ok := ⟨by simp [mk], by simp [mk]⟩
theorem inv_step {k i : Nat} {A : Mm} {ws : List Int} (h : Inv k i A ws) (hi : i < 8) (c : Nat) (hc : c < 8) :
    (A.appE (c : Int) 0 (mk (50 - (i : Int))) = 11 ∧ Inv k (i + 1) (A.appZ (c : Int) 0 (mk (50 - (i : Int)))) ws) ∨
    (A.appE (c : Int) 0 (mk (50 - (i : Int))) = 0 ∧ Inv k (i + 1) (A.appZ (c : Int) 0 (mk (50 - (i : Int)))) (if c < k then (50 - (i : Int)) :: ws else ws)) := by
  obtain ⟨f, hL, hP⟩ := h.lg
  have hok : (A.appZ (c : Int) 0 (mk (50 - (i : Int)))).ok (11 * (i + 1)) := ok_mono (ok_appZ h.ok _ 0 _ (mk_ok _)) (by omega)
  have lo' : ∀ q ∈ ws, 50 - ((i + 1 : Nat) : Int) < q := fun q hq => by have := h.lo q hq; omega
  cases hf : findF f c 0 with
  | none =>
    left
    obtain ⟨h1, h2⟩ := log_full hL c hc 0 (mk (50 - (i : Int))) hf
    rw [h2] at hok ⊢
    exact ⟨h1, hok, h.fz, ⟨f, hL, hP⟩, h.up, lo', Nat.le_succ_of_le h.ln⟩
  | some j =>
    right
    have hj : j < 4 := by
      have := List.mem_of_find?_eq_some hf
      simpa using this
    have hfree : f (2 + 4 * c + j) = none := by
      have := List.find?_some hf
      unfold freeF at this
      cases hq : f (2 + 4 * c + j) with
      | none => rfl
      | some r =>
        rw [hq] at this
        have h1 := ((mayR_iff r).1 (hL.is _ r hq).1).1
        simp at this; omega
    obtain ⟨h1, h2, h3⟩ := log_done hL h.fz c hc 0 (mk (50 - (i : Int))) (mk_may i hi) j hf
    have hu := recs_upd f (2 + 4 * c + j) (mk (50 - (i : Int))) hfree (4 * k)
    refine ⟨h1, hok, h3, ⟨_, h2, ?_⟩, ?_, ?_, ?_⟩
    · by_cases hck : c < k
      · rw [if_pos (by omega)] at hu
        rw [if_pos hck]
        exact hu.trans (hP.cons _)
      · rw [if_neg (by omega)] at hu
        rw [if_neg hck]
        exact hu.trans hP
    · split
      · exact List.pairwise_cons.2 ⟨fun q hq => h.lo q hq, h.up⟩
      · exact h.up
    · split
      · intro q hq
        rcases List.mem_cons.1 hq with rfl | hq
        · omega
        · exact lo' q hq
      · exact lo'
    · have := h.ln
      split <;> simp <;> omega
theorem inv_scan {k i : Nat} {A : Mm} {ws : List Int} (h : Inv k i A ws) (h1 : 1 ≤ k) (h8 : k ≤ 8) : A.scanE (k : Int) = 0 ∧ A.scanV (k : Int) = ws.map mk := by
  obtain ⟨f, hL, hP⟩ := h.lg
  obtain ⟨q1, q2⟩ := log_scan hL k h1 h8
  exact ⟨q1, q2.trans (sortR_is _ ws hP h.up)⟩

/-! ### The row that is wanted -/
theorem info_int : (Try.prog.info? 3).map (fun i => (i.zero, i.size, i.bytes)) = some (some (.int .i64 0), 1, 8) := by kernel_rfl
def ints (ws : List Int) : List Value := ws.map fun q => Value.int .i64 q
theorem ints_len (ws : List Int) : (ints ws).length = ws.length := by simp [ints]
theorem ints_one (ws : List Int) : ∀ u ∈ ints ws, u.oneCell' = true := fun u hu => by
  simp only [ints, List.mem_map] at hu
  obtain ⟨z, -, rfl⟩ := hu
  rfl
def IntSt (base : Nat) (v : Value) (ws : List Int) (w : World) (C : Nat → Prop) : Prop := (∀ k, C k ↔ v.ownBlock = some k) ∧ w.ownsRow base 3 1 v ws.length (ints ws)
theorem owns_sameI {w w' : World} {base n : Nat} {v : Value} {xs : List Value} (h : w.ownsRow base 3 1 v n xs) (hs : ∀ k, v.ownBlock = some k → w'.heap[k]? = w.heap[k]?) : w'.ownsRow base 3 1 v n xs := by
  refine ⟨h.1, ?_⟩
  rcases h.2 with h' | ⟨g, cap, cur, rfl, h1, h2, h3⟩
  · exact Or.inl h'
  · exact Or.inr ⟨g, cap, cur, rfl, h1, (hs g rfl).trans h2, h3⟩
theorem intSt_loc (base : Nat) (v : Value) (ws : List Int) : Loc (IntSt base v ws) := fun w w' C ⟨h1, h2⟩ hs => ⟨h1, owns_sameI h2 (fun k hk => hs k ((h1 k).2 hk))⟩
theorem int_cell {w : World} {base g cap : Nat} {ws : List Int} (h : w.ownsRow base 3 1 (.slice (some ⟨g, 0, none⟩) ws.length cap) ws.length (ints ws)) (t : Nat) (ht : t < ws.length) : w.cell? ⟨g, t, none⟩ = some (.int .i64 (ws.getD t 0)) := by
  rw [h.cellAt t (by omega)]
  simp [ints, List.getD_eq_getElem?_getD, ht]
theorem int_start {W w : World} {b : Nat} {A : Mm} {G : Nat → Prop} (h : Has W w G b A) : VSt W b A (IntSt W.heap.size (.slice (some ⟨w.heap.size, 0, none⟩) 0 0) []) (w.alloc (.cells #[] 3)) G := by
  have hl := h.lt
  have hk := h.keeps.size
  refine ⟨fun k => k = w.heap.size, (h.alloc _).less (fun k hk => hk.imp id id), ⟨fun k => by simp [Value.ownBlock, eq_comm], ?_⟩, fun k hk hc => ?_, fun k hk => ?_⟩
  · exact World.ownsRow_lit (base := W.heap.size) (e := 3) (size := 1) w #[] 0 hk (by decide) rfl
  · have := hl k hk; omega
  · omega
theorem int_next {W w w2 : World} {b : Nat} {A : Mm} {G : Nat → Prop} {v v' : Value} {ws : List Int} {q : Int} (h : VSt W b A (IntSt W.heap.size v ws) w G) (ho : w2.ownsRow w.heap.size 3 1 v' (1 + ws.length) ([Value.int .i64 q] ++ ints ws))
    (hg : (w.alloc (.cells #[.int .i64 q] 3)).grownBy w2 (some w.heap.size)) : VSt W b A (IntSt W.heap.size v' (q :: ws)) w2 G ∧ ∃ g cap, v' = .slice (some ⟨g, 0, none⟩) (q :: ws).length cap := by
  obtain ⟨D, g1, -, g3, g4⟩ := h
  have hK : Keeps (fun _ => False) w w2 := ((Keeps.refl _ w).alloc (.cells #[.int .i64 q] 3)).grown hg (fun k hk => Or.inr (by cases hk; exact Nat.le_refl _))
  have a1 := g1.turn (P := fun _ => False) (fun k hk => hk.elim) hK
  have hW := g1.keeps.size
  have hlt := ho.lt
  refine ⟨⟨fun k => v'.ownBlock = some k, a1.less (fun k hk => ?_), ⟨fun k => Iff.rfl, ?_⟩, fun k hk hc => ?_, fun k hk => ?_⟩, ?_⟩
  · rcases hk with hk | hk
    · exact Or.inl (Or.inl hk)
    · exact Or.inr (hlt k hk)
  · have e : (q :: ws).length = 1 + ws.length := by simp; omega
    rw [e]
    exact ⟨ho.1, ho.2.imp id fun ⟨g, cap, cur, q1, q2, q3⟩ => ⟨g, cap, cur, q1, Nat.le_trans hW q2, q3⟩⟩
  · have := g1.lt k (Or.inl hk)
    have := (hlt k hc).1
    omega
  · exact Nat.le_trans hW (hlt k hk).1
  · rcases ho.2 with ⟨-, h0⟩ | ⟨g, cap, cur, e, -⟩
    · omega
    · exact ⟨g, cap, by rw [e]; congr 1; simp; omega⟩

theorem open_coresR {H : Type} {enc : TypeId × Value → H} {W : World} {r : Reach} {b0 : Nat} {v : Value} {d : DataW H} {p : List MemPlace}
    (hv : Value.okWide Try.prog W r b0 43 v) (h : DataW.Trod enc Try.prog W 0 (fun _ => true) true 43 v d p) :
    ∃ (a : Option Addr) (zs : List Int) (cap : Nat), v = .slice a zs.length cap ∧ IntsAt W a zs ∧ (∀ z ∈ zs, In64 z) ∧ zs.length ≤ 9223372036854775807 := by
  obtain ⟨a, len, cap, rfl⟩ := okWide_slice Try.underlying43 hv
  obtain ⟨fuel, hf⟩ := h
  obtain ⟨a, zs, n, cap, e, hr⟩ := row_of_trod Try.underlying43 Try.underlying3 (by kernel_rfl) hf
  have hl := hr.1
  subst hl
  exact ⟨a, zs, cap, e, hr.keep⟩

set_option maxHeartbeats 8000000 in
theorem walk (W : World) (a : Option Addr) (zs : List Int) (cap : Nat) (y : Int) (hp : IntsAt W a zs ∧ (∀ z ∈ zs, In64 z) ∧ zs.length ≤ 9223372036854775807) (wy : (Lit.int .i64 y).wf = true) :
    Calls Try.prog 8 #[.slice a zs.length cap, .int .i64 y] W fun e W' => e = .returned (.bool true) ∧ Below W.heap.size W W' := by
  obtain ⟨hp1, hp2, hp3⟩ := hp
  have HP1 := hide hp1
  have HP2 := hide hp2
  have K1 := hide (rkind_any y (in64_wf wy) 8 (by decide) (by decide))
  have hk := kindN_lt y 8 (by decide)
  generalize kindN y 8 = k0 at *
  clear wy hp1 hp2
  go_enter Try.func8, Try.ntmps8
  go_wp2_with fail
  refine (shown6_any _).mono ?_
  rintro e w1 ⟨rfl, hk1⟩
  have HK1 := hide hk1
  clear hk1
  go_wp2_with fail
  refine (new_any w1 64 (by decide) (by decide)).mono ?_
  intro e w2 hm
  obtain ⟨b, rfl, h0, -⟩ := made_has W (unhide HK1) hm (fun _ => False) (fun _ h => h.elim)
  have H0 : Hid (Has W w2 (fun _ => False) b s0) := h0
  clear hm h0 HK1
  go_wp2_with fail
  refine (unhide K1 _).mono ?_
  rintro e w2 ⟨rfl, rfl⟩
  obtain ⟨k, hk2⟩ : ∃ k : Nat, 1 + (k0 : Int) = (k : Int) := ⟨1 + k0, by omega⟩
  have hk3 : 1 ≤ k ∧ k ≤ 8 := by omega
  have V0 := hide (int_start (unhide H0))
  have I0 := hide (inv_zero k)
  clear K1 H0
  go_upto_region 7 with fail
  have HK2 := hide hk2
  clear hk2
  obtain ⟨g0, hg0⟩ : ∃ g0, g0 = w2.heap.size := ⟨_, rfl⟩
  rw [← hg0] at V0 ⊢
  clear hg0
  generalize w2.alloc (.cells #[] 3) = w3 at *
  obtain ⟨i0, hi0, hz0, hz1, hz2⟩ := info_parts info_int
  go_wp2_with fail
  go_loopw [9, 10] (fun z1 z2 wr => ∃ (i : Nat) (A : Mm) (ws : List Int) (g c9 : Nat), i ≤ 8 ∧ z1 = .slice (some ⟨g, 0, none⟩) ws.length c9 ∧ z2 = .int .i64 (i : Int) ∧ Aside (VSt W b A (IntSt W.heap.size (.slice (some ⟨g, 0, none⟩) ws.length c9) ws) wr (fun _ => False)) ∧ Aside (Inv k i A ws)) (fun _ z2 _ => 8 - (intOf z2).toNat)
  case atStart => exact ⟨0, s0, [], g0, 0, by omega, rfl, rfl, unhide V0, unhide I0⟩
  case round =>
    clear V0 I0
    obtain ⟨i, A, ws, g, c9, hi, rfl, rfl, V1, I1⟩ := hrel
    by_cases hlt : i < zs.length ∧ i < 8
    · obtain ⟨hl1, hl2⟩ := hlt
      have hl1z : (i : Int) < (zs.length : Int) := by omega
      have hl2z : (i : Int) < 8 := by omega
      obtain ⟨bb, off, rfl, hcell⟩ : ∃ bb off, a = some ⟨bb, off, none⟩ ∧ W.cell? ⟨bb, off + i, none⟩ = some (.int .i64 (zs.getD i 0)) := by
        rcases unhide HP1 with h | ⟨bb, off, h1, h2⟩
        · rw [h] at hl1; simp at hl1
        · exact ⟨bb, off, h1, h2 i hl1⟩
      have cz : wr.cell? ⟨bb, off + i, none⟩ = some (.int .i64 (zs.getD i 0)) := by
        obtain ⟨C, g1, -⟩ := V1.out
        exact g1.keeps.cellOf hcell id
      have CK := hide (rkind_any (zs.getD i 0) (unhide HP2 _ (by rw [List.getD_eq_getElem?_getD, List.getElem?_eq_getElem hl1]; exact List.getElem_mem hl1)) 8 (by decide) (by decide))
      have hc := kindN_lt (zs.getD i 0) 8 (by decide)
      generalize kindN (zs.getD i 0) 8 = c at *
      generalize zs.getD i 0 = zi at *
      clear hcell
      go_wp2_with fail
      refine (unhide CK _).mono ?_
      rintro e wr ⟨rfl, rfl⟩
      clear CK cz
      obtain ⟨q, hq⟩ : ∃ q : Int, 50 - (i : Int) = q := ⟨_, rfl⟩
      have CA : Hid (∀ w G, Has W w G b A → Calls Try.prog 26 #[.pointer (some ⟨b, 0, none⟩), .int .i64 (c : Int), .int .i64 0, .agg #[.int .i64 q, .int .i64 0, .int .i64 0, .int .u64 0]] w (After W w G b (A.appZ (c : Int) 0 (mk q)) (.int .i64 (A.appE (c : Int) 0 (mk q))))) := fun w G h => h.appR (ok_mono I1.out.ok (by omega)) (c : Int) 0 (mk q) (mk_ok q)
      have ST := hide (inv_step I1.out hl2 c hc)
      rw [hq] at ST
      have hqr : 0 ≤ q ∧ q ≤ 50 := by omega
      clear I1
      go_wp2_with fail
      refine (V1.out.after (intSt_loc _ _ _) (fun G h => unhide CA _ G h)).mono ?_
      rintro e w4 ⟨rfl, q1, -⟩
      have V2 : Aside (VSt W b (A.appZ (c : Int) 0 (mk q)) (IntSt W.heap.size (.slice (some ⟨g, 0, none⟩) ws.length c9) ws) w4 (fun _ => False)) := q1
      clear q1 V1 CA
      generalize A.appZ (c : Int) 0 (mk q) = A2 at *
      generalize A.appE (c : Int) 0 (mk q) = E at *
      rcases unhide ST with ⟨rfl, I2⟩ | ⟨rfl, I2⟩
      · have I3 : Aside (Inv k (i + 1) A2 ws) := I2
        clear ST I2
        go_wp2_with fail
        go_roundw
        case rel => exact ⟨i + 1, A2, ws, g, c9, by omega, rfl, by go_num, V2, I3⟩
        case measure => simp [intOf]; omega
      · by_cases hck : c < k
        · rw [if_pos hck] at I2
          have I3 : Aside (Inv k (i + 1) A2 (q :: ws)) := I2
          have hckz : (c : Int) < (k : Int) := by omega
          clear ST I2
          go_upto_region 15 with fail
          have O1 : Hid ((w4.alloc (.cells #[.int .i64 q] 3)).ownsRow w4.heap.size 3 1 (.slice (some ⟨w4.heap.size, 0, none⟩) 1 1) 1 [.int .i64 q]) := World.ownsRow_lit (base := w4.heap.size) (e := 3) (size := 1) w4 #[.int .i64 q] 1 (Nat.le_refl _) (by decide) rfl
          have O2 : Hid (∀ j u, (ints ws)[j]? = some u → (w4.alloc (.cells #[.int .i64 q] 3)).cell? ((⟨g, 0, none⟩ : Addr).add j) = some u) := fun j u hj => by
            obtain ⟨C, g1, ⟨gC, gO⟩, -, -⟩ := V2.out
            have hl := g1.lt g (Or.inr ((gC g).2 rfl))
            have hc := gO.cells (g := g) rfl j u hj
            rw [Addr.add_mid] at hc ⊢
            rw [World.cell?_of_block (Below.heap_alloc w4 _ g hl)]
            exact hc
          have hwl := I3.out.ln
          have FIN : Hid (∀ v' w2, w2.ownsRow w4.heap.size 3 1 v' (1 + ws.length) ([Value.int .i64 q] ++ ints ws) → (w4.alloc (.cells #[.int .i64 q] 3)).grownBy w2 (some w4.heap.size) → Aside (VSt W b A2 (IntSt W.heap.size v' (q :: ws)) w2 (fun _ => False)) ∧ ∃ g cap, v' = .slice (some ⟨g, 0, none⟩) (q :: ws).length cap) := fun v' w2 h1 h2 => by
            obtain ⟨r1, r2⟩ := int_next V2.out h1 h2
            exact ⟨r1, r2⟩
          have b1 : 1 + ws.length ≤ maxLen := by unfold maxLen; simp at hwl; omega
          have b2 : (1 + ws.length) * 8 ≤ 140737488355328 := by simp at hwl; omega
          have b3 : w4.heap.size ≤ (w4.alloc (.cells #[.int .i64 q] 3)).heap.size := by simp
          clear V2
          go_wp2_with (at_builtin; refine wpList_append_own _ rfl (.tmp 67) (.tmp 68) 43 rfl w4.heap.size 3 i0 _ 1 8 Try.underlying43 hi0 hz0 hz1 hz2 rfl (by decide) (.slice (some ⟨w4.heap.size, 0, none⟩) 1 1) 1 [.int .i64 q] rfl (unhide O1) ⟨g, 0, none⟩ ws.length c9 (ints ws) rfl (by rw [ints_len]; omega) (unhide O2) (ints_one ws) b1 b2 b3 ?_; intro v' w5 hown hgrow hnil; obtain ⟨V3, g2, cap2, rfl⟩ := unhide FIN v' w5 hown hgrow; clear hown hgrow hnil FIN O1 O2)
          go_roundw
          case rel => exact ⟨i + 1, A2, q :: ws, g2, cap2, by omega, rfl, by go_num, V3, I3⟩
          case measure => simp [intOf]; omega
        · rw [if_neg hck] at I2
          have I3 : Aside (Inv k (i + 1) A2 ws) := I2
          have hckz : ¬ (c : Int) < (k : Int) := by omega
          clear ST I2
          go_wp2_with fail
          go_roundw
          case rel => exact ⟨i + 1, A2, ws, g, c9, by omega, rfl, by go_num, V2, I3⟩
          case measure => simp [intOf]; omega
    · obtain ⟨e1, e2⟩ := inv_scan I1.out hk3.1 hk3.2
      have hwl : ws.length ≤ 8 := Nat.le_trans I1.out.ln hi
      obtain ⟨C, g1, ⟨gC, gO⟩, g3, g4⟩ := V1.out
      have S := hide (Has.scanR (g1.less (G' := C) (fun k hk => Or.inr hk)) (ok_mono I1.out.ok (by omega)) (k : Int))
      rw [e1, e2] at S
      have GO := hide gO
      have GC := hide gC
      clear e1 e2 g1 gO gC g3 g4 V1 I1
      have hlt2 : ((i : Int) < (zs.length : Int) ∧ (i : Int) < 8) → False := fun h => hlt (by omega)
      by_cases hl1 : i < zs.length
      · have hl1z : (i : Int) < (zs.length : Int) := by omega
        have hl2z : ¬ (i : Int) < 8 := by omega
        clear hlt hlt2
        go_wp2_with fail
        refine (unhide S).mono ?_
        rintro e w6 ⟨v, rfl, ⟨C2, q1, ⟨-, q2⟩, -, -⟩, q3⟩
        have HK := hide q1.keeps
        obtain ⟨p, cap3, rfl, hat⟩ := owns_open q2
        have HAT := hide hat
        have hI : w6.ownsRow W.heap.size 3 1 (.slice (some ⟨g, 0, none⟩) ws.length c9) ws.length (ints ws) := owns_sameI (unhide GO) (fun k hk => q3 k ((unhide GC k).2 hk))
        have HI := hide hI
        rw [show (ws.map mk).length = ws.length by simp] at HAT ⊢
        clear S q1 q2 q3 hat hI GO GC
        go_wp2_with fail
        go_loopw [15] (fun z wr' => ∃ t : Nat, t ≤ ws.length ∧ z = .int .i64 (t : Int) ∧ ∃ n, wr' = w6.drewN n) (fun z _ => ws.length - (intOf z).toNat)
        case atStart => exact ⟨0, by omega, rfl, 0, rfl⟩
        case round =>
          obtain ⟨t, ht, rfl, n, rfl⟩ := hrel
          by_cases hltd : t < ws.length
          · have hltdz : (t : Int) < (ws.length : Int) := by omega
            obtain ⟨gg, rfl, -, hr⟩ := unhide HAT t (by simpa using hltd)
            have er : (ws.map mk).getD t zr = mk (ws.getD t 0) := by simp [List.getD_eq_getElem?_getD, hltd]
            rw [er] at hr
            have c1 : w6.cell? ⟨gg, t * 4, none⟩ = some (.int .i64 (ws.getD t 0)) := hr 0 _ rfl
            have c2 := int_cell (unhide HI) t hltd
            generalize ws.getD t 0 = wt at *
            have d1 : ∀ m, ((w6.drewN n).drewN m).cell? ⟨gg, t * 4, none⟩ = some (.int .i64 wt) := fun m => c1
            have d2 : ∀ m, ((w6.drewN n).drewN m).cell? ⟨g, t, none⟩ = some (.int .i64 wt) := fun m => c2
            have dn : Hid (∀ m, ∃ n', (w6.drewN n).drewN m = w6.drewN n') := fun m => ⟨n + m, by rw [World.drewN_drewN]⟩
            clear hr er c1 c2
            generalize w6.drewN n = w7 at *
            go_wp2_with fail
            go_quiet (fail)
            go_wp2_with fail
            go_roundw
            case rel => exact ⟨t + 1, by omega, by go_num, unhide dn _⟩
            case measure => simp [intOf]; omega
          · obtain rfl : t = ws.length := by omega
            go_wp2_with fail
            go_ret
            have hK := unhide HK
            exact ⟨rfl, Keeps.asBelow ⟨hK.os, hK.tape, hK.output, hK.size, hK.block⟩⟩
      · have hl1z : ¬ (i : Int) < (zs.length : Int) := by omega
        clear hlt hlt2
        go_wp2_with fail
        refine (unhide S).mono ?_
        rintro e w6 ⟨v, rfl, ⟨C2, q1, ⟨-, q2⟩, -, -⟩, q3⟩
        have HK := hide q1.keeps
        obtain ⟨p, cap3, rfl, hat⟩ := owns_open q2
        have HAT := hide hat
        have hI : w6.ownsRow W.heap.size 3 1 (.slice (some ⟨g, 0, none⟩) ws.length c9) ws.length (ints ws) := owns_sameI (unhide GO) (fun k hk => q3 k ((unhide GC k).2 hk))
        have HI := hide hI
        rw [show (ws.map mk).length = ws.length by simp] at HAT ⊢
        clear S q1 q2 q3 hat hI GO GC
        go_wp2_with fail
        go_loopw [15] (fun z wr' => ∃ t : Nat, t ≤ ws.length ∧ z = .int .i64 (t : Int) ∧ ∃ n, wr' = w6.drewN n) (fun z _ => ws.length - (intOf z).toNat)
        case atStart => exact ⟨0, by omega, rfl, 0, rfl⟩
        case round =>
          obtain ⟨t, ht, rfl, n, rfl⟩ := hrel
          by_cases hltd : t < ws.length
          · have hltdz : (t : Int) < (ws.length : Int) := by omega
            obtain ⟨gg, rfl, -, hr⟩ := unhide HAT t (by simpa using hltd)
            have er : (ws.map mk).getD t zr = mk (ws.getD t 0) := by simp [List.getD_eq_getElem?_getD, hltd]
            rw [er] at hr
            have c1 : w6.cell? ⟨gg, t * 4, none⟩ = some (.int .i64 (ws.getD t 0)) := hr 0 _ rfl
            have c2 := int_cell (unhide HI) t hltd
            generalize ws.getD t 0 = wt at *
            have d1 : ∀ m, ((w6.drewN n).drewN m).cell? ⟨gg, t * 4, none⟩ = some (.int .i64 wt) := fun m => c1
            have d2 : ∀ m, ((w6.drewN n).drewN m).cell? ⟨g, t, none⟩ = some (.int .i64 wt) := fun m => c2
            have dn : Hid (∀ m, ∃ n', (w6.drewN n).drewN m = w6.drewN n') := fun m => ⟨n + m, by rw [World.drewN_drewN]⟩
            clear hr er c1 c2
            generalize w6.drewN n = w7 at *
            go_wp2_with fail
            go_quiet (fail)
            go_wp2_with fail
            go_roundw
            case rel => exact ⟨t + 1, by omega, by go_num, unhide dn _⟩
            case measure => simp [intOf]; omega
          · obtain rfl : t = ws.length := by omega
            go_wp2_with fail
            go_ret
            have hK := unhide HK
            exact ⟨rfl, Keeps.asBelow ⟨hK.os, hK.tape, hK.output, hK.size, hK.block⟩⟩

set_option maxRecDepth 100000 in
theorem lifted (os : Os) (started : os.Started) (H : Type) (enc : TypeId × Value → H) :
    ReturnsInHanded {} Try.checked os 8 .any (Rows.rlogOrderSpec.pre6 enc Try.prog Try.f8 Rows.rlogOrderRow.domain false) (Rows.rlogOrderSpec.post enc Try.prog Try.f8 false true false false) := by
  refine law_frame (C := Try.checked) (ts := [43, 3]) (tb := 4) (by kernel_rfl) started (by kernel_rfl) Try.func8 Try.params8 (by kernel_rfl) Try.underlying4 (by kernel_rfl) (by kernel_rfl) rfl ?_
    (ChangeSpec.witness6 (enc := enc) (C := Try.checked) false ⟨#[], #[.slice none 0 0, .int .i64 0], []⟩ 8 (by kernel_rfl) (by kernel_rfl) (by kernel_rfl) (by kernel_rfl)) ?_
  · intro ds hd
    match ds, hd with
    | [d0, d1], _ => rfl
  · intro W base args ds p hval hA
    obtain ⟨v0, vs0, d0, ds0, p0, q0, hargs, rfl, rfl, h0, r0⟩ := trodAll_cons hA
    obtain ⟨v1, vs1, d1, ds1, p1, q1, rfl, rfl, rfl, h1, r1⟩ := trodAll_cons r0
    obtain ⟨rfl, rfl, rfl⟩ := trodAll_nil r1
    obtain rfl : args = #[v0, v1] := by cases args; simp_all
    obtain ⟨a, zs, cap, rfl, hp⟩ := open_coresR (hval 0 43 v0 rfl rfl) h0
    obtain ⟨y, rfl, rfl, rfl, wy⟩ := open_int Try.underlying3 (hval 1 3 v1 rfl rfl) h1
    exact walk W a zs cap y hp wy

theorem over : Rows.rlogOrderRow.holds Try.pinned (OpenSpec.ofChange Rows.rlogOrderSpec) :=
  OpenClaim.holds_of_wide 8 Try.f8 rfl rfl rfl rfl rfl rfl rfl ⟨rfl, rfl, rfl, rfl, rfl⟩ rfl rfl rfl rfl rfl (by kernel_rfl) Try.func8 (by kernel_rfl)
    (of_decide_eq_true (by kernel_rfl)) (by unfold Func.isWrapper; first | (rw [if_pos (by decide +kernel)]; kernel_rfl) | (rw [if_neg (by decide +kernel)]; exact ⟨rfl, rfl⟩))
    (fun os started H enc _ => lifted os started H enc)

end Go.Proofs.Ytjidekjeibdbgaa.rlogOrder
namespace Go.Proofs.Ytjidekjeibdbgaa
theorem rlogOrder_holds : Rows.RlogOrderSaid := rlogOrder.over
end Go.Proofs.Ytjidekjeibdbgaa
