
/-
  The document's store beside the document's memory, in whatever company: what must stand, and what a frames' call, a reader, a store of the memory leaves; is, own.
-/
import Derived.Test.YtinhnnnehhlceaaGreatPkYs
import Derived.Test.YtinhnnnehhlceaaGreatPkSto
namespace Go.Proofs.YtinhnnnehhlceaaGreat
open Go.ChangeShapes Go.WideShapes Go.ChangeAt Go.RowKit Go.Joins
set_option maxRecDepth 10000
set_option linter.unusedVariables false
set_option linter.unusedSimpArgs false

/-- The document's memory in the block z, in whatever company: what its Store and Load leave. -/
structure MemR (W : World) (z : Nat) (St : Mm → World → (Nat → Prop) → Prop) : Prop where
  stay : ∀ A, Stay W (St A)
  store : ∀ w G A, St A w G → A.ok 1000 → ∀ l q v, Calls Tryz.prog 78 #[.pointer (some ⟨z, 0, none⟩), .int .i64 l, .int .i64 q, .int .u64 v] w (Done (St (A.storeZ l q v)) w G (.int .i64 (A.storeE l q)))
  load : ∀ w G A, St A w G → A.ok 1000 → ∀ l, Calls Tryz.prog 64 #[.pointer (some ⟨z, 0, none⟩), .int .i64 l] w (Done (St A) w G (.tuple #[.agg (lnV (A.hasZ l)), .int .i64 (A.loadE l)]))

/-- The document's store in the block y, its frames in f and g, on the memory in z. -/
structure YHas (W : World) (z y f g : Nat) (St : Mm → World → (Nat → Prop) → Prop) (S : Sto) (K : Nat → En) (A : Mm) (w : World) (G : Nat → Prop) : Prop where
  rep : YRep z f S K w y
  fr : RFRep w f g S.F
  st : St A w (fun k => G k ∨ k = y ∨ k = f ∨ k = g)
  ny : ¬ G y
  nf : ¬ G f
  ng : ¬ G g
  yf : y ≠ f
  yg : y ≠ g
  wy : W.heap.size ≤ y
  wf : W.heap.size ≤ f
  wg : W.heap.size ≤ g

section
variable {W w : World} {z y f g : Nat} {St : Mm → World → (Nat → Prop) → Prop} {S : Sto} {K : Nat → En} {A : Mm} {G : Nat → Prop}
theorem YHas.ly (h : YHas W z y f g St S K A w G) : y < w.heap.size := Blk.lt h.rep
theorem YHas.stay (M : MemR W z St) (y f g : Nat) (S : Sto) (K : Nat → En) (A : Mm) : Stay W (YHas W z y f g St S K A) where
  al := fun w G o h => by
    have l1 := h.ly
    have l2 := h.fr.lt
    have l3 := h.fr.bl.lt
    refine ⟨Blk.alloc h.rep o, h.fr.keeps ((Keeps.refl (fun _ => False) _).alloc _) id id, (M.stay A).ls _ _ _ ((M.stay A).al _ _ o h.st) (fun k hk => ?_), fun hk => ?_, fun hk => ?_, fun hk => ?_, h.yf, h.yg, h.wy, h.wf, h.wg⟩
    · rcases hk with (hk | hk) | hk
      · exact Or.inl (Or.inl hk)
      · exact Or.inr hk
      · exact Or.inl (Or.inr hk)
    · rcases hk with hk | hk
      · exact h.ny hk
      · omega
    · rcases hk with hk | hk
      · exact h.nf hk
      · omega
    · rcases hk with hk | hk
      · exact h.ng hk
      · omega
  ls := fun w G G' h hs => ⟨h.rep, h.fr, (M.stay A).ls _ _ _ h.st (fun k hk => hk.imp (hs k) id), fun hk => h.ny (hs _ hk), fun hk => h.nf (hs _ hk), fun hk => h.ng (hs _ hk), h.yf, h.yg, h.wy, h.wf, h.wg⟩
  bl := fun w w' G h hk => ⟨Blk.keeps h.rep hk id, h.fr.keeps hk id id, (M.stay A).bl _ _ _ h.st hk, h.ny, h.nf, h.ng, h.yf, h.yg, h.wy, h.wf, h.wg⟩
  ow := fun w w' G L h hL hW hk => ⟨Blk.keeps h.rep hk (fun e => h.ny (e ▸ hL)), h.fr.keeps hk (fun e => h.nf (e ▸ hL)) (fun e => h.ng (e ▸ hL)), (M.stay A).ow _ _ _ L h.st (Or.inl hL) hW hk, h.ny, h.nf, h.ng, h.yf, h.yg, h.wy, h.wf, h.wg⟩
  lt := fun w G h k hk => (M.stay A).lt _ _ h.st k (Or.inl hk)
  sz := fun w G h => (M.stay A).sz _ _ h.st
/-- The block of the store is written, and nothing else that was there. -/
theorem YHas.turned (M : MemR W z St) (h : YHas W z y f g St S K A w G) {S' : Sto} {K' : Nat → En} {w' : World} (hr : YRep z f S' K' w' y) (hF : S'.F = S.F) (hk : Keeps (· = y) w w') : YHas W z y f g St S' K' A w' G ∧ Same G w w' :=
  ⟨⟨hr, hF ▸ h.fr.keeps hk (Ne.symm h.yf) (Ne.symm h.yg), (M.stay A).ow _ _ _ y h.st (Or.inr (Or.inl rfl)) h.wy hk, h.ny, h.nf, h.ng, h.yf, h.yg, h.wy, h.wf, h.wg⟩, fun k hg => hk.block k ((M.stay A).lt _ _ h.st k (Or.inl hg)) (fun e => h.ny (e ▸ hg))⟩
theorem YHas.went (M : MemR W z St) (h : YHas W z y f g St S K A w G) {F : Fr} {v : Value} {e : Ending} {w' : World} (hw : RFWent w f g F v e w') : Done (YHas W z y f g St (S.withF F) K A) w G v e w' :=
  ⟨hw.1, ⟨Blk.keeps h.rep hw.2.2 h.yg, hw.2.1, (M.stay A).ow _ _ _ g h.st (Or.inr (Or.inr (Or.inr rfl))) h.wg hw.2.2, h.ny, h.nf, h.ng, h.yf, h.yg, h.wy, h.wf, h.wg⟩, fun k hg => hw.2.2.block k ((M.stay A).lt _ _ h.st k (Or.inl hg)) (fun e => h.ng (e ▸ hg))⟩
/-- The company beneath has turned, and none of the caller's blocks. -/
theorem YHas.under {St' : Mm → World → (Nat → Prop) → Prop} {A' : Mm} (h : YHas W z y f g St S K A w G) {v : Value} {e : Ending} {w' : World} (hd : Done (St' A') w (fun k => G k ∨ k = y ∨ k = f ∨ k = g) v e w') : Done (YHas W z y f g St' S K A') w G v e w' := by
  obtain ⟨he, h1, h2⟩ := hd
  refine ⟨he, ⟨?_, h.fr.same (h2 f (Or.inr (Or.inr (Or.inl rfl)))) (h2 g (Or.inr (Or.inr (Or.inr rfl)))), h1, h.ny, h.nf, h.ng, h.yf, h.yg, h.wy, h.wf, h.wg⟩, fun k hg => h2 k (Or.inl hg)⟩
  have := h.rep
  unfold YRep Blk at this ⊢
  rw [h2 y (Or.inr (Or.inl rfl))]; exact this
theorem YHas.store (M : MemR W z St) (h : YHas W z y f g St S K A w G) (hok : A.ok 1000) (l q v : Int) :
    Calls Tryz.prog 78 #[.pointer (some ⟨z, 0, none⟩), .int .i64 l, .int .i64 q, .int .u64 v] w (Done (YHas W z y f g St S K (A.storeZ l q v)) w G (.int .i64 (A.storeE l q))) :=
  (M.store w _ A h.st hok l q v).mono fun e w' hd => h.under hd
theorem YHas.load (M : MemR W z St) (h : YHas W z y f g St S K A w G) (hok : A.ok 1000) (l : Int) :
    Calls Tryz.prog 64 #[.pointer (some ⟨z, 0, none⟩), .int .i64 l] w (Done (YHas W z y f g St S K A) w G (.tuple #[.agg (lnV (A.hasZ l)), .int .i64 (A.loadE l)])) :=
  (M.load w _ A h.st hok l).mono fun e w' hd => h.under hd
end

theorem hasL_lines (t : Nat → En) (l : Int) : hasL (linesL t) l = hasB t l := by
  rw [Bool.eq_iff_iff, ← linesL_mem]
  unfold hasL
  exact List.contains_iff_mem
theorem yis_any {z y f : Nat} {S : Sto} {K : Nat → En} {w : World} (h : YRep z f S K w y) (x : Int) :
    Calls Tryz.prog 82 #[.pointer (some ⟨y, 0, none⟩), .int .i64 x] w fun e w' => e = .returned (.int .i64 (S.findE x)) ∧ w' = w := by
  by_cases h1 : x < 0
  · have e : S.findE x = 1 := if_neg (by omega)
    rw [e]
    clear h e
    go_enter Tryz.func82, Tryz.ntmps82
    go_wp2_with fail
    go_ret
    exact ⟨rfl, rfl⟩
  · by_cases h2 : (49 : Int) ≤ x
    · have e : S.findE x = 1 := if_neg (by omega)
      rw [e]
      clear h e
      go_enter Tryz.func82, Tryz.ntmps82
      go_wp2_with fail
      go_ret
      exact ⟨rfl, rfl⟩
    · obtain ⟨i, rfl⟩ : ∃ i : Nat, x = (i : Int) := ⟨x.toNat, by omega⟩
      have hi : i < 49 := by omega
      have hi1 : (i : Int) < 49 := by omega
      have ck := h.ck i hi
      have e : S.findE (i : Int) = if (S.w i).k = 0 then 30 else 0 := by
        unfold Sto.findE; rw [if_pos ⟨by omega, by omega⟩, Int.toNat_natCast]
      rw [e]
      clear h e h1 h2
      generalize (S.w i).k = k at *
      by_cases hk : k = 0
      · subst hk
        rw [if_pos rfl]
        go_enter Tryz.func82, Tryz.ntmps82
        go_wp2_with fail
        go_ret
        exact ⟨rfl, rfl⟩
      · have hk1 : (k == 0) = false := by simpa using hk
        rw [if_neg hk]
        clear hk
        go_enter Tryz.func82, Tryz.ntmps82
        go_wp2_with fail
        go_ret
        exact ⟨rfl, rfl⟩

theorem wpList_load_mid_y {P : Program} {ops : Array Oper} {rest : List Oper} {op : Oper} {a : Act} {w : World} {Q : Exit → Act → World → Prop} (hw : Region.wanted op (yielded ops a.tmps) = true) (ty : TypeId) (x : Operand) (ho : op.op = .load ty x)
    (b o : Nat) (hx : a.eval x = .pointer (some ⟨b, o, none⟩)) (cs : List Value) (d : TypeDesc) (hc : w.rangeAt b o cs) (hu : P.underlying ty = some d) (hd : d.isRow = true) (hi : (P.info? ty).map (·.size) = some cs.length)
    (h : wpList P ops Q rest (a.put op.dst (.agg cs.toArray)) w) : wpList P ops Q (op :: rest) a w :=
  wpList_step fun K hK => by
    rw [if_pos hw]
    exact wp_load_mid ty x ho b o hx cs d hc hu hd hi (hK _ _ h)
/-- What is marked, as either side keeps it. -/
def Mks (S : Sto) (K : Nat → En) : Prop := (S.is = true → K = S.k) ∧ (S.is = false → S.k = fun _ => ze)
set_option maxHeartbeats 2000000 in
theorem yown_any {z y f : Nat} {S : Sto} {K : Nat → En} {w : World} (h : YRep z f S K w y) (hk : Mks S K) (i : Nat) (hi : i < 49) :
    Calls Tryz.prog 77 #[.pointer (some ⟨y, 0, none⟩), .int .i64 (i : Int)] w fun e w' => e = .returned (.bool (S.own (S.w i).l)) ∧ Keeps (fun _ => False) w w' := by
  have hi1 : (i : Int) < 49 := by omega
  have cl := h.cl i hi
  have H := hide h
  have s49 : (Tryz.prog.info? 42).map (·.size) = some (tabV S.b).toList.length := by rw [Array.length_toList, tabV_size]; kernel_rfl
  have s49k : (Tryz.prog.info? 42).map (·.size) = some (tabV K).toList.length := by rw [Array.length_toList, tabV_size]; kernel_rfl
  have lb : (linesL S.b).length ≤ 49 := linesTo_len _ _
  have lk : (linesL K).length ≤ 49 := linesTo_len _ _
  have CB0 := hide (fun w' => rlines_any S.b w')
  have CK0 := hide (fun w' => rlines_any K w')
  have KK : Keeps (fun _ => False) w w := Keeps.refl _ _
  have HK := hide hk
  have OWN : Hid (S.own (S.w i).l = (!hasB S.b (S.w i).l && !hasB S.k (S.w i).l)) := rfl
  clear hk h
  generalize (S.w i).l = l at *
  have CB : Hid (∀ w', Keeps (fun _ => False) w w' → Calls Tryz.prog 70 #[.agg (tabV S.b)] w' (Lined S.b w')) := fun w' _ => unhide CB0 w'
  have RB : Hid (∀ w', Keeps (fun _ => False) w w' → w'.rangeAt y 149 (tabV S.b).toList) := fun w' hk => ((unhide H).keeps hk id).rb
  have RK : Hid (∀ w', Keeps (fun _ => False) w w' → w'.rangeAt y 304 (tabV K).toList) := fun w' hk => ((unhide H).keeps hk id).rk
  have CIS : Hid (∀ w', Keeps (fun _ => False) w w' → w'.cell? ⟨y, 451, none⟩ = some (.bool S.is)) := fun w' hk => ((unhide H).keeps hk id).cis
  clear CB0
  rw [unhide OWN]
  cases hb : hasB S.b l with
  | true =>
    go_enter Tryz.func77, Tryz.ntmps77
    go_wp2_with (with_reducible refine wpList_load_mid (by with_unfolding_all rfl) 42 _ (by with_unfolding_all rfl) y 149 (by with_unfolding_all rfl) (tabV S.b).toList _ (unhide RB _ KK) Tryz.underlying42 (by with_unfolding_all rfl) s49 ?_)
    refine (unhide CB _ KK).mono ?_
    rintro e w1 ⟨v, rfl, hk1, hr1⟩
    obtain ⟨a1, c1, rfl, hl1⟩ := hr1.lies
    have CI := hide (rin_any w1 a1 _ c1 l hl1 (by omega))
    rw [hasL_lines] at CI
    have KX := hide (KK.trans' hk1)
    clear hk1 hr1 hl1 KK
    go_wp2_with fail
    refine (unhide CI).mono ?_
    rintro e w1 ⟨rfl, rfl⟩
    have KK := unhide KX
    clear KX CI
    rw [hb]
    go_wp2_with fail
    go_ret
    exact ⟨rfl, KK⟩
  | false =>
    cases his : S.is with
    | false =>
      have hz : hasB S.k l = false := by rw [(unhide HK).2 his]; exact hasB_ze l
      rw [hz]
      rw [his] at CIS
      go_enter Tryz.func77, Tryz.ntmps77
      go_wp2_with (with_reducible refine wpList_load_mid (by with_unfolding_all rfl) 42 _ (by with_unfolding_all rfl) y 149 (by with_unfolding_all rfl) (tabV S.b).toList _ (unhide RB _ KK) Tryz.underlying42 (by with_unfolding_all rfl) s49 ?_)
      refine (unhide CB _ KK).mono ?_
      rintro e w1 ⟨v, rfl, hk1, hr1⟩
      obtain ⟨a1, c1, rfl, hl1⟩ := hr1.lies
      have CI := hide (rin_any w1 a1 _ c1 l hl1 (by omega))
      rw [hasL_lines] at CI
      have KX := hide (KK.trans' hk1)
      clear hk1 hr1 hl1 KK
      go_wp2_with fail
      refine (unhide CI).mono ?_
      rintro e w1 ⟨rfl, rfl⟩
      have KK := unhide KX
      clear KX CI
      rw [hb]
      have cis := unhide CIS _ KK
      go_wp2_with fail
      go_ret
      exact ⟨rfl, KK⟩
    | true =>
      rw [← (unhide HK).1 his]
      rw [his] at CIS
      cases hkl : hasB K l with
      | true =>
        go_enter Tryz.func77, Tryz.ntmps77
        go_wp2_with (with_reducible refine wpList_load_mid (by with_unfolding_all rfl) 42 _ (by with_unfolding_all rfl) y 149 (by with_unfolding_all rfl) (tabV S.b).toList _ (unhide RB _ KK) Tryz.underlying42 (by with_unfolding_all rfl) s49 ?_)
        refine (unhide CB _ KK).mono ?_
        rintro e w1 ⟨v, rfl, hk1, hr1⟩
        obtain ⟨a1, c1, rfl, hl1⟩ := hr1.lies
        have CI := hide (rin_any w1 a1 _ c1 l hl1 (by omega))
        rw [hasL_lines] at CI
        have KX := hide (KK.trans' hk1)
        clear hk1 hr1 hl1 KK
        go_wp2_with fail
        refine (unhide CI).mono ?_
        rintro e w1 ⟨rfl, rfl⟩
        have KK := unhide KX
        clear KX CI
        rw [hb]
        have cis := unhide CIS _ KK
        have CB1 : Hid (∀ w', Keeps (fun _ => False) w w' → Calls Tryz.prog 70 #[.agg (tabV K)] w' (Lined K w')) := fun w' _ => unhide CK0 w'
        clear CB
        have CB := CB1
        clear CB1
        go_wp2_with (with_reducible refine wpList_load_mid_y (by with_unfolding_all rfl) 42 _ (by with_unfolding_all rfl) y 304 (by with_unfolding_all rfl) (tabV K).toList _ (unhide RK _ KK) Tryz.underlying42 (by with_unfolding_all rfl) s49k ?_)
        refine (unhide CB _ KK).mono ?_
        rintro e w1 ⟨v, rfl, hk1, hr1⟩
        obtain ⟨a1, c1, rfl, hl1⟩ := hr1.lies
        have CI := hide (rin_any w1 a1 _ c1 l hl1 (by omega))
        rw [hasL_lines] at CI
        have KX := hide (KK.trans' hk1)
        clear hk1 hr1 hl1 KK
        go_wp2_with fail
        refine (unhide CI).mono ?_
        rintro e w1 ⟨rfl, rfl⟩
        have KK := unhide KX
        clear KX CI
        rw [hkl]
        go_wp2_with fail
        go_ret
        exact ⟨rfl, KK⟩
      | false =>
        go_enter Tryz.func77, Tryz.ntmps77
        go_wp2_with (with_reducible refine wpList_load_mid (by with_unfolding_all rfl) 42 _ (by with_unfolding_all rfl) y 149 (by with_unfolding_all rfl) (tabV S.b).toList _ (unhide RB _ KK) Tryz.underlying42 (by with_unfolding_all rfl) s49 ?_)
        refine (unhide CB _ KK).mono ?_
        rintro e w1 ⟨v, rfl, hk1, hr1⟩
        obtain ⟨a1, c1, rfl, hl1⟩ := hr1.lies
        have CI := hide (rin_any w1 a1 _ c1 l hl1 (by omega))
        rw [hasL_lines] at CI
        have KX := hide (KK.trans' hk1)
        clear hk1 hr1 hl1 KK
        go_wp2_with fail
        refine (unhide CI).mono ?_
        rintro e w1 ⟨rfl, rfl⟩
        have KK := unhide KX
        clear KX CI
        rw [hb]
        have cis := unhide CIS _ KK
        have CB1 : Hid (∀ w', Keeps (fun _ => False) w w' → Calls Tryz.prog 70 #[.agg (tabV K)] w' (Lined K w')) := fun w' _ => unhide CK0 w'
        clear CB
        have CB := CB1
        clear CB1
        go_wp2_with (with_reducible refine wpList_load_mid_y (by with_unfolding_all rfl) 42 _ (by with_unfolding_all rfl) y 304 (by with_unfolding_all rfl) (tabV K).toList _ (unhide RK _ KK) Tryz.underlying42 (by with_unfolding_all rfl) s49k ?_)
        refine (unhide CB _ KK).mono ?_
        rintro e w1 ⟨v, rfl, hk1, hr1⟩
        obtain ⟨a1, c1, rfl, hl1⟩ := hr1.lies
        have CI := hide (rin_any w1 a1 _ c1 l hl1 (by omega))
        rw [hasL_lines] at CI
        have KX := hide (KK.trans' hk1)
        clear hk1 hr1 hl1 KK
        go_wp2_with fail
        refine (unhide CI).mono ?_
        rintro e w1 ⟨rfl, rfl⟩
        have KK := unhide KX
        clear KX CI
        rw [hkl]
        go_wp2_with fail
        go_ret
        exact ⟨rfl, KK⟩

end Go.Proofs.YtinhnnnehhlceaaGreat
