
/-
  radix's directory: what leaf returns; only the map of the names turns.
-/
import Derived.Test.YtnjicfnigfkppabXDLine
namespace Go.Proofs.Ytnjicfnigfkppab
open Go.ChangeShapes Go.WideShapes Go.ChangeAt Go.RowKit Go.Joins
set_option maxRecDepth 10000
set_option linter.unusedVariables false
set_option linter.unusedSimpArgs false

def LfPost (w : World) (M : Nat) (ms : List Int) (v : List Int) (ok : Bool) (e : Ending) (w' : World) : Prop := e = .returned (.tuple #[.agg (iv .i64 v), .bool ok]) ∧ Keeps (· = M) w w' ∧ (ok = true → NamedM w' M ms)
def lfN (A : Mm) (ns : List Int) (z : Int) : List Int := ns ++ [z] ++ objTo (readX (lineA A z.toNat)) 7
theorem wf_l {c : En} (hm : mayN c = true) : (Lit.int .i64 c.l).wf = true := by
  have := (mayN_iff c).1 hm
  simp [Lit.wf, IntKind.min, IntKind.max, IntKind.signed, IntKind.bits]; omega
set_option maxHeartbeats 8000000 in
theorem dleaf_any {w : World} {F : Nat → Prop} {b c : Nat} {A : Mm} {cs : Nat → Cel} (h : Rep w F b A c cs) (hon : A.on = true) (hn : A.n ≤ 1024) (hlk : ∀ i, (A.l i).ok) (M : Nat) (hFM : ¬ F M) (ns : List Int) (hM : NamedM w M ns) (fr z : Int) (hN : okN A.n fr ns = true) (hz : (Lit.int .i64 z).wf = true) (hlen : ns.length < 900) :
    Calls Try.prog 23 #[.agg #[.pointer (some ⟨b, 0, none⟩), .int .i64 fr, .map (some M)], .int .i64 z] w (LfPost w M (lfN A ns z) (lfV A.n fr A ns z) (lfB A.n fr A ns z)) := by
  have hML := hM.lt
  obtain ⟨W1, hW1⟩ : ∃ W1, W1 = (w.alloc (.cells #[.pointer (some ⟨b, 0, none⟩), .int .i64 fr, .map (some M)] 63)).alloc (.cells (iv .i64 (zrow 7)) 43) := ⟨_, rfl⟩
  have HK1 : Hid (Keeps (fun _ => False) w W1) := by rw [hW1]; exact ((Keeps.refl _ w).alloc _).alloc _
  have R1 := hide (h.keeps (unhide HK1) (fun _ _ => id))
  have C1 := hide (dline_any (unhide R1) hon hn M hFM ns (hM.keeps (unhide HK1) id) fr z hz (by omega))
  have G1 : Hid (W1.heap[w.heap.size]? = some (.cells #[.pointer (some ⟨b, 0, none⟩), .int .i64 fr, .map (some M)] 63 (0, 0))) := by rw [hW1]; exact (heap2 w _ _).1
  have G2 : Hid (W1.heap[w.heap.size + 1]? = some (.cells (iv .i64 (zrow 7)) 43 (0, 0))) := by rw [hW1]; exact (heap2 w _ _).2
  have HW1 := hide hW1
  have s21z := s21_of (zrow 7) (zrow_len 7)
  have HFM := hide hFM
  have HFL := hide h.lt
  have n8 := iv_newx .u64 (lnV' A.n fr A ns z) 32 8 (lnV'_len _ _ _ _ _)
  have z8 : (iv .u64 (lnV' A.n fr A ns z)).size = 8 := by rw [iv_size, lnV'_len]
  have HB1 : Hid (nmB A.n fr ns z = false → lfV A.n fr A ns z = zrow 7 ∧ lfB A.n fr A ns z = false) := fun e => by
    have : lfB A.n fr A ns z = false := by unfold lfB; rw [e]; rfl
    exact ⟨by unfold lfV; rw [this]; rfl, this⟩
  have HB2 : Hid (isX (lineA A z.toNat) = false → lfV A.n fr A ns z = zrow 7 ∧ lfB A.n fr A ns z = false) := fun e => by
    have : lfB A.n fr A ns z = false := by unfold lfB; rw [e]; simp
    exact ⟨by unfold lfV; rw [this]; rfl, this⟩
  have HB3 : Hid (okN A.n fr (lfN A ns z) = false → lfV A.n fr A ns z = zrow 7 ∧ lfB A.n fr A ns z = false) := fun e => by
    have : lfB A.n fr A ns z = false := by unfold lfB; unfold lfN at e; rw [e]; simp
    exact ⟨by unfold lfV; rw [this]; rfl, this⟩
  have HB4 : Hid (nmB A.n fr ns z = true → isX (lineA A z.toNat) = true → okN A.n fr (lfN A ns z) = true → lfV A.n fr A ns z = readX (lineA A z.toNat) ∧ lfB A.n fr A ns z = true) := fun e1 e2 e3 => by
    have : lfB A.n fr A ns z = true := by unfold lfB; unfold lfN at e3; rw [e1, e2, e3]; rfl
    exact ⟨by unfold lfV; rw [this]; rfl, this⟩
  have HLV : Hid (nmB A.n fr ns z = true → lnV' A.n fr A ns z = lineA A z.toNat) := fun e => by unfold lnV'; rw [e]; rfl
  have HNS := hide hN
  clear h hM hW1 hFM hN
  go_enter Try.func23, Try.ntmps23
  go_upto_region 1 with fail
  rw [zero21, ← unhide HW1]
  have d0 : W1.cell? ⟨w.heap.size, 0, none⟩ = some (.pointer (some ⟨b, 0, none⟩)) := by rw [cell_of_block (unhide G1)]; rfl
  have d1 : W1.cell? ⟨w.heap.size, 1, none⟩ = some (.int .i64 fr) := by rw [cell_of_block (unhide G1)]; rfl
  have d2 : W1.cell? ⟨w.heap.size, 2, none⟩ = some (.map (some M)) := by rw [cell_of_block (unhide G1)]; rfl
  clear HW1
  go_wp2_with fail
  refine (unhide C1).mono ?_
  rintro e w2 ⟨rfl, hk2, hn2⟩
  have hs1 := lt_of_heap (unhide G2)
  have hs2 := hk2.size
  have K1 := hide ((Below.heap_alloc w2 (.cells (iv .u64 (lnV' A.n fr A ns z)) 32) w.heap.size (by omega)).trans ((hk2.block _ (by omega) (by omega)).trans (unhide G1)))
  have KR := hide ((Below.heap_alloc w2 (.cells (iv .u64 (lnV' A.n fr A ns z)) 32) (w.heap.size + 1) (by omega)).trans ((hk2.block _ (by omega) (by omega)).trans (unhide G2)))
  have K6 := hide (heap_new w2 (.cells (iv .u64 (lnV' A.n fr A ns z)) 32))
  have R2 := hide (((unhide R1).keeps hk2 (fun x hx e => unhide HFM (e ▸ hx))).alloc (.cells (iv .u64 (lnV' A.n fr A ns z)) 32))
  have HKR : Hid (Keeps (· = M) w (w2.alloc (.cells (iv .u64 (lnV' A.n fr A ns z)) 32))) := (((unhide HK1).mono fun k hk hf => hf.elim).trans' hk2).alloc _
  have HN2 := hide hn2
  clear hk2 hn2 C1 G1 G2 R1 HK1 d0 d1 d2
  have HM2 : Hid (nmB A.n fr ns z = true → NamedM (w2.alloc (.cells (iv .u64 (lnV' A.n fr A ns z)) 32)) M (ns ++ [z])) := fun hb => (unhide HN2 hb).keeps (F := fun _ => False) ((Keeps.refl _ _).alloc _) id
  go_upto_region 2 with fail
  clear n8 z8 HN2
  generalize w2.alloc (.cells (iv .u64 (lnV' A.n fr A ns z)) 32) = W2 at *
  cases hb : nmB A.n fr ns z with
  | false =>
    have HV := hide (unhide HB1 hb)
    clear HB1 HB2 HB3 HB4 HLV hb
    go_wp2_with (first | (refine wpList_build0 rfl 43 rfl _ build21 ?_) | (refine wpList_store_row rfl 43 _ _ rfl (w.heap.size + 1) (iv .i64 (zrow 7)) rfl rfl _ _ (unhide KR) s21z rfl (iv_one _ _) ?_))
    refine bodyPost_ret (v := .tuple #[.agg (iv .i64 (zrow 7)), .bool false]) (results_two Try.results23 _ _ (w.heap.size + 1) 43 (iv .i64 (zrow 7)) (0, 0) _ _ rfl rfl (setRow_heap _ _ _ _ _ _ (unhide KR)) Try.underlying43 rfl s21z) rfl ?_
    exact ⟨by rw [(unhide HV).1, (unhide HV).2], Keeps.setRow (unhide HKR) (Or.inr (by omega)) _, fun h => by rw [(unhide HV).2] at h; cases h⟩
  | true =>
    have HM2' := hide (unhide HM2 hb)
    have HOK : Hid (okN A.n fr (ns ++ [z]) = true) := (okN_snoc _ _ _ _).2 ⟨unhide HNS, hb⟩
    have hL := unhide HLV hb
    rw [hL] at K6
    rw [hL]
    have CR := hide (readLeaf_any (lineA A z.toNat) (lineA_len _ _) (lineA_wf A _ (hlk _)))
    have s8 := s8_of (lineA A z.toNat) (lineA_len _ _)
    have e21 : (iv .i64 (zrow 7)).size = (iv .i64 (readXV (lineA A z.toNat))).size := by rw [iv_size, iv_size, zrow_len, readXV_len]
    have s21 := s21_of (readXV (lineA A z.toNat)) (readXV_len _)
    have HXV : Hid (isX (lineA A z.toNat) = true → readXV (lineA A z.toNat) = readX (lineA A z.toNat)) := fun e => by unfold readXV; rw [if_pos e]
    have HXM : Hid (isX (lineA A z.toNat) = true → ∀ j, j < 7 → mayN (enAt (readX (lineA A z.toNat)) j) = true) := fun e j hj => readX_l _ e j hj
    have LX := hide (readX_len (lineA A z.toNat))
    have HLN : Hid (lfN A ns z = ns ++ [z] ++ objTo (readX (lineA A z.toNat)) 7) := rfl
    have HB4' := hide (unhide HB4 hb)
    clear hL HB1 HB4 HLV hb hz HNS HM2
    generalize lineA A z.toNat = L at *
    go_wp2_with (with_reducible refine wpList_load_row (by with_unfolding_all rfl) 32 _ (by with_unfolding_all rfl) w2.heap.size (by with_unfolding_all rfl) _ _ _ _ (unhide K6) Try.underlying32 (by with_unfolding_all rfl) s8 ?_)
    refine (unhide CR _).mono ?_
    rintro e w3 ⟨rfl, hb3⟩
    have hs3 := hb3.size
    have hr3 := lt_of_heap (unhide KR)
    have K1' := hide ((hb3.block _ (by omega)).trans (unhide K1))
    have KR' := hide ((hb3.block _ (by omega)).trans (unhide KR))
    have hk3 : Keeps (fun _ => False) W2 w3 := Keeps.of_below hb3
    have R3 := hide ((unhide R2).keeps hk3 (fun _ _ => id))
    have HKR' : Hid (Keeps (· = M) w w3) := (unhide HKR).trans' (hk3.mono fun k hk hf => hf.elim)
    have HM3 := hide ((unhide HM2').keeps hk3 id)
    clear hb3 hk3 CR K1 KR K6 R2 HKR HM2'
    have K5 := hide ((setRow_other w3 (w.heap.size + 1) w.heap.size (iv .i64 (readXV L)) (by omega)).trans (unhide K1'))
    have KR := hide (setRow_heap w3 (w.heap.size + 1) _ (iv .i64 (readXV L)) _ _ (unhide KR'))
    have hk4 : Keeps (· = w.heap.size + 1) w3 (w3.setRow (w.heap.size + 1) (iv .i64 (readXV L))) := Keeps.setRow (F := (· = w.heap.size + 1)) (Keeps.refl _ _) (Or.inl rfl) _
    have HKR : Hid (Keeps (· = M) w (w3.setRow (w.heap.size + 1) (iv .i64 (readXV L)))) := Keeps.setRow (unhide HKR') (Or.inr (by omega)) _
    have HM4 := hide ((unhide HM3).keeps hk4 (by omega))
    have ZR : Hid ((iv .i64 (readXV L)).size = (iv .i64 (zrow 7)).size) := e21.symm
    have hFw : Hid (∀ x, F x → ¬ (x = w.heap.size + 1)) := fun x hx e => by
      have := unhide HFL x hx; omega
    have R4 := hide ((unhide R3).keeps hk4 (unhide hFw))
    clear hk4 HKR' HM3 R3 K1'
    go_upto_region 5 with (with_reducible refine wpList_store_row (by with_unfolding_all rfl) 43 _ _ (by with_unfolding_all rfl) (w.heap.size + 1) (iv .i64 (readXV L)) (by with_unfolding_all rfl) (by with_unfolding_all rfl) _ _ (unhide KR') s21 e21 (iv_one _ _) ?_)
    clear KR'
    generalize w3.setRow (w.heap.size + 1) (iv .i64 (readXV L)) = w4 at *
    cases hi : isX L with
    | false =>
      have HV := hide (unhide HB2 hi)
      clear HB2 HB3 HB4' hi
      go_wp2_with (first | (refine wpList_build0 rfl 43 rfl _ build21 ?_) | (refine wpList_store_row rfl 43 _ _ rfl (w.heap.size + 1) (iv .i64 (zrow 7)) rfl rfl _ _ (unhide KR) s21z (unhide ZR) (iv_one _ _) ?_))
      refine bodyPost_ret (v := .tuple #[.agg (iv .i64 (zrow 7)), .bool false]) (results_two Try.results23 _ _ (w.heap.size + 1) 43 (iv .i64 (zrow 7)) (0, 0) _ _ rfl rfl (setRow_heap _ _ _ _ _ _ (unhide KR)) Try.underlying43 rfl s21z) rfl ?_
      exact ⟨by rw [(unhide HV).1, (unhide HV).2], Keeps.setRow (unhide HKR) (Or.inr (by omega)) _, fun h => by rw [(unhide HV).2] at h; cases h⟩
    | true =>
      have hXV := unhide HXV hi
      rw [hXV] at KR ZR s21
      have HXM' := hide (unhide HXM hi)
      have HB5 := hide (unhide HB4' hi)
      have ZX := ZR
      clear HXV HXM HB2 HB4' hi hXV ZR
      have HIX : Hid (∀ (W : World) (j : Nat), j < 7 → Sem.run Try.prog (Instr.index 43 (.agg (iv .i64 (readX L))) (.int .i64 (j : Int))) W = .ok (.agg (ev (enAt (readX L) j))) W) := fun W j hj => run_index_en _ 7 Try.underlying43 W _ (unhide LX) .i64 j hj
      go_wp2_with (with_reducible refine wpList_load_row (by with_unfolding_all rfl) 43 _ (by with_unfolding_all rfl) (w.heap.size + 1) (by with_unfolding_all rfl) _ _ _ _ (unhide KR) Try.underlying43 (by with_unfolding_all rfl) s21 ?_)
      go_loopw [27] (fun c0 wr => ∃ j : Nat, j ≤ 7 ∧ c0 = .int .i64 j ∧ Keeps (· = M) w wr ∧ wr.heap[w.heap.size]? = some (.cells #[.pointer (some ⟨b, 0, none⟩), .int .i64 fr, .map (some M)] 63 (0, 0)) ∧ wr.heap[w.heap.size + 1]? = some (.cells (iv .i64 (readX L)) 43 (0, 0)) ∧
        Rep wr F b A c cs ∧ NamedM wr M (ns ++ [z] ++ objTo (readX L) j) ∧ okN A.n fr (ns ++ [z] ++ objTo (readX L) j) = true) (fun c0 _ => 7 - (intOf c0).toNat)
      case atStart => exact ⟨0, by omega, rfl, unhide HKR, unhide K5, unhide KR, unhide R4, by rw [show objTo (readX L) 0 = [] from rfl, List.append_nil]; exact unhide HM4, by rw [show objTo (readX L) 0 = [] from rfl, List.append_nil]; exact unhide HOK⟩
      case round =>
        clear HKR K5 KR R4 HM4 HOK
        obtain ⟨j, hj, rfl, hkr, g0, g1, rr, nm, ok⟩ := hrel
        have HKR := hide hkr
        have G0 := hide g0
        have G1 := hide g1
        have RR := hide rr
        have NM := hide nm
        have OK := hide ok
        have hsr := lt_of_heap g1
        clear hkr g0 g1 rr nm ok
        by_cases hlt : j < 7
        · have hix := fun W => unhide HIX W j hlt
          have hmay := unhide HXM' j hlt
          have hwl := wf_l hmay
          have HOB : Hid (objTo (readX L) (j + 1) = objTo (readX L) j ++ (if (enAt (readX L) j).k = 0 then [] else [(enAt (readX L) j).l])) := rfl
          obtain ⟨r, hr⟩ := objTo_seven (readX L) (j + 1) (by omega)
          have HR := hide hr
          have hol := objTo_len (readX L) j
          have hlen2 : (ns ++ [z] ++ objTo (readX L) j).length < 1000 := by simp only [List.length_append, List.length_singleton]; omega
          have n3 := ev_new (enAt (readX L) j) 25
          have z3 := ev_size (enAt (readX L) j)
          have c0' : (wr.alloc (.cells (ev (enAt (readX L) j)) 25)).cell? ⟨wr.heap.size, 0, none⟩ = some (.int .i64 (enAt (readX L) j).k) := by rw [cell_of_block (heap_new wr _)]; rfl
          have c2' : (wr.alloc (.cells (ev (enAt (readX L) j)) 25)).cell? ⟨wr.heap.size, 2, none⟩ = some (.int .i64 (enAt (readX L) j).l) := by rw [cell_of_block (heap_new wr _)]; rfl
          have C0 := hide c0'
          have C2 := hide c2'
          clear hr hmay hol c0' c2'
          generalize hE : enAt (readX L) j = E at *
          generalize ev E = EV at *
          clear hE
          have hka : Keeps (fun _ => False) wr (wr.alloc (.cells EV 25)) := (Keeps.refl _ _).alloc _
          have HKA : Hid (Keeps (· = M) w (wr.alloc (.cells EV 25))) := (unhide HKR).alloc _
          have GA0 := hide ((hka.block _ (by omega) id).trans (unhide G0))
          have GA1 := hide ((hka.block _ (by omega) id).trans (unhide G1))
          have RA := hide ((unhide RR).keeps hka (fun _ _ => id))
          have NA := hide ((unhide NM).keeps hka id)
          clear hka G0 G1 RR NM HKR
          go_upto_region 10 with fail
          clear n3 z3
          generalize wr.alloc (.cells EV 25) = WA at *
          have hsa := lt_of_heap (unhide GA1)
          have e0 := unhide C0
          have e2 := unhide C2
          clear C0 C2
          by_cases hk0 : E.k = 0
          · have hk1 : (E.k != 0) = false := by simpa using hk0
            have ho : objTo (readX L) (j + 1) = objTo (readX L) j := by rw [unhide HOB, if_pos hk0, List.append_nil]
            have HO := hide ho
            clear ho hk0 HOB
            go_wp2_with fail
            go_roundw
            case rel => exact ⟨j + 1, by omega, by go_num, unhide HKA, unhide GA0, unhide GA1, unhide RA, by rw [unhide HO]; exact unhide NA, by rw [unhide HO]; exact unhide OK⟩
            case measure => simp [intOf]; omega
          · have hk1 : (E.k != 0) = true := by simpa using hk0
            have ho : ns ++ [z] ++ objTo (readX L) (j + 1) = (ns ++ [z] ++ objTo (readX L) j) ++ [E.l] := by rw [unhide HOB, if_neg hk0, List.append_assoc (ns ++ [z])]
            have HO := hide ho
            have CN := hide (name_any (unhide RA) M _ (unhide NA) fr E.l hwl hlen2)
            have HFAIL : Hid (nmB A.n fr (ns ++ [z] ++ objTo (readX L) j) E.l = false → okN A.n fr (lfN A ns z) = false) := fun e => bool_not fun hh => by
              rw [unhide HLN, unhide HR, ← List.append_assoc] at hh
              have := okN_prefix hh
              rw [unhide HO, okN_snoc, e] at this
              exact absurd this.2 (by simp)
            have d0 : WA.cell? ⟨w.heap.size, 0, none⟩ = some (.pointer (some ⟨b, 0, none⟩)) := by rw [cell_of_block (unhide GA0)]; rfl
            have d1 : WA.cell? ⟨w.heap.size, 1, none⟩ = some (.int .i64 fr) := by rw [cell_of_block (unhide GA0)]; rfl
            have d2 : WA.cell? ⟨w.heap.size, 2, none⟩ = some (.map (some M)) := by rw [cell_of_block (unhide GA0)]; rfl
            clear ho hk0 HOB hwl hlen2
            go_wp2_with fail
            refine (unhide CN).mono ?_
            rintro e w5 ⟨rfl, hk5, hn5⟩
            have HKR := hide ((unhide HKA).trans' hk5)
            have K5 := hide ((hk5.block _ (by omega) (by omega)).trans (unhide GA0))
            have KR := hide ((hk5.block _ (by omega) (by omega)).trans (unhide GA1))
            have R5 := hide ((unhide RA).keeps hk5 (fun x hx e => unhide HFM (e ▸ hx)))
            have N5 := hide hn5
            clear hk5 hn5 CN d0 d1 d2 e0 e2 HKA GA0 GA1 RA NA
            cases hq : nmB A.n fr (ns ++ [z] ++ objTo (readX L) j) E.l with
            | false =>
              have HV := hide (unhide HB3 (unhide HFAIL hq))
              have ZR := ZX
              clear hq HFAIL
              go_wp2_with (first | (refine wpList_build0 rfl 43 rfl _ build21 ?_) | (refine wpList_store_row rfl 43 _ _ rfl (w.heap.size + 1) (iv .i64 (zrow 7)) rfl rfl _ _ (unhide KR) s21z (unhide ZR) (iv_one _ _) ?_))
              refine bodyPost_ret (v := .tuple #[.agg (iv .i64 (zrow 7)), .bool false]) (results_two Try.results23 _ _ (w.heap.size + 1) 43 (iv .i64 (zrow 7)) (0, 0) _ _ rfl rfl (setRow_heap _ _ _ _ _ _ (unhide KR)) Try.underlying43 rfl s21z) rfl ?_
              exact ⟨by rw [(unhide HV).1, (unhide HV).2], Keeps.setRow (unhide HKR) (Or.inr (by omega)) _, fun h => by rw [(unhide HV).2] at h; cases h⟩
            | true =>
              have NN := hide (unhide N5 hq)
              have OO : Hid (okN A.n fr ((ns ++ [z] ++ objTo (readX L) j) ++ [E.l]) = true) := (okN_snoc _ _ _ _).2 ⟨unhide OK, hq⟩
              clear hq HFAIL N5
              go_wp2_with fail
              go_roundw
              case rel => exact ⟨j + 1, by omega, by go_num, unhide HKR, unhide K5, unhide KR, unhide R5, by rw [unhide HO]; exact unhide NN, by rw [unhide HO]; exact unhide OO⟩
              case measure => simp [intOf]; omega
        · obtain rfl : j = 7 := by omega
          have HV := hide (unhide HB5 (by rw [unhide HLN]; exact unhide OK))
          have HNM : Hid (NamedM wr M (lfN A ns z)) := by show NamedM _ _ _; rw [unhide HLN]; exact unhide NM
          clear HB3 HB5 OK NM
          go_wp2_with (first | (with_reducible refine wpList_load_row (by with_unfolding_all rfl) 43 _ (by with_unfolding_all rfl) (w.heap.size + 1) (by with_unfolding_all rfl) _ _ _ _ (unhide G1) Try.underlying43 (by with_unfolding_all rfl) s21 ?_) | (with_reducible refine wpList_store_row (by with_unfolding_all rfl) 43 _ _ (by with_unfolding_all rfl) (w.heap.size + 1) (iv .i64 (readX L)) (by with_unfolding_all rfl) (by with_unfolding_all rfl) _ _ (unhide G1) s21 rfl (iv_one _ _) ?_))
          refine bodyPost_ret (v := .tuple #[.agg (iv .i64 (readX L)), .bool true]) (results_two Try.results23 _ _ (w.heap.size + 1) 43 (iv .i64 (readX L)) (0, 0) _ _ rfl rfl (setRow_heap _ _ _ _ _ _ (unhide G1)) Try.underlying43 rfl s21) rfl ?_
          exact ⟨by rw [(unhide HV).1, (unhide HV).2], Keeps.setRow (unhide HKR) (Or.inr (by omega)) _, fun _ => (unhide HNM).keeps (F := (· = w.heap.size + 1)) (Keeps.setRow (F := (· = w.heap.size + 1)) (Keeps.refl _ _) (Or.inl rfl) _) (by omega)⟩

end Go.Proofs.Ytnjicfnigfkppab
