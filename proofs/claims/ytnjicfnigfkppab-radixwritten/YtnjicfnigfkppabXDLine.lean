
/-
  radix's directory: what line and leaf return; only the map of the names turns.
-/
import Derived.Test.YtnjicfnigfkppabXLoadMath
namespace Go.Proofs.Ytnjicfnigfkppab
open Go.ChangeShapes Go.WideShapes Go.ChangeAt Go.RowKit Go.Joins
set_option maxRecDepth 10000
set_option linter.unusedVariables false
set_option linter.unusedSimpArgs false

def LnPost (w : World) (M : Nat) (ns : List Int) (z : Int) (v : List Int) (ok : Bool) (e : Ending) (w' : World) : Prop := e = .returned (.tuple #[.agg (iv .u64 v), .bool ok]) ∧ Keeps (· = M) w w' ∧ (ok = true → NamedM w' M (ns ++ [z]))
def lnV' (n : Nat) (fr : Int) (A : Mm) (ns : List Int) (z : Int) : List Int := if nmB n fr ns z then lineA A z.toNat else zs8
theorem lnV'_len (n : Nat) (fr : Int) (A : Mm) (ns : List Int) (z : Int) : (lnV' n fr A ns z).length = 8 := by unfold lnV'; split; exact lineA_len _ _; rfl
set_option maxHeartbeats 4000000 in
theorem dline_any {w : World} {F : Nat → Prop} {b c : Nat} {A : Mm} {cs : Nat → Cel} (h : Rep w F b A c cs) (hon : A.on = true) (hn : A.n ≤ 1024) (M : Nat) (hFM : ¬ F M) (ns : List Int) (hM : NamedM w M ns) (fr z : Int) (hz : (Lit.int .i64 z).wf = true) (hlen : ns.length < 1000) :
    Calls Try.prog 22 #[.agg #[.pointer (some ⟨b, 0, none⟩), .int .i64 fr, .map (some M)], .int .i64 z] w (LnPost w M ns z (lnV' A.n fr A ns z) (nmB A.n fr ns z)) := by
  have hML := hM.lt
  obtain ⟨W1, hW1⟩ : ∃ W1, W1 = (w.alloc (.cells #[.pointer (some ⟨b, 0, none⟩), .int .i64 fr, .map (some M)] 63)).alloc (.cells (iv .u64 zs8) 32) := ⟨_, rfl⟩
  have HK1 : Hid (Keeps (fun _ => False) w W1) := by rw [hW1]; exact ((Keeps.refl _ w).alloc _).alloc _
  have R1 := hide (h.keeps (unhide HK1) (fun _ _ => id))
  have C1 := hide (name_any (unhide R1) M ns (hM.keeps (unhide HK1) id) fr z hz hlen)
  have G1 : Hid (W1.heap[w.heap.size]? = some (.cells #[.pointer (some ⟨b, 0, none⟩), .int .i64 fr, .map (some M)] 63 (0, 0))) := by rw [hW1]; exact (heap2 w _ _).1
  have G2 : Hid (W1.heap[w.heap.size + 1]? = some (.cells (iv .u64 zs8) 32 (0, 0))) := by rw [hW1]; exact (heap2 w _ _).2
  have HW1 := hide hW1
  have s8z := s8_of zs8 rfl
  have HFM := hide hFM
  clear h hM hW1 hFM
  go_enter Try.func22, Try.ntmps22
  go_upto_region 1 with fail
  rw [zero8x, ← unhide HW1]
  have d0 : W1.cell? ⟨w.heap.size, 0, none⟩ = some (.pointer (some ⟨b, 0, none⟩)) := by rw [cell_of_block (unhide G1)]; rfl
  have d1 : W1.cell? ⟨w.heap.size, 1, none⟩ = some (.int .i64 fr) := by rw [cell_of_block (unhide G1)]; rfl
  have d2 : W1.cell? ⟨w.heap.size, 2, none⟩ = some (.map (some M)) := by rw [cell_of_block (unhide G1)]; rfl
  clear HW1
  go_wp2_with fail
  refine (unhide C1).mono ?_
  rintro e w2 ⟨rfl, hk2, hn2⟩
  have hs1 := lt_of_heap (unhide G2)
  have K1 := hide ((hk2.block _ (by omega) (by omega)).trans (unhide G1))
  have K2 := hide ((hk2.block _ (by omega) (by omega)).trans (unhide G2))
  have R2 := hide ((unhide R1).keeps hk2 (fun x hx e => unhide HFM (e ▸ hx)))
  have HK2 : Hid (Keeps (· = M) w w2) := ((unhide HK1).mono fun k hk hf => hf.elim).trans' hk2
  have HN2 := hide hn2
  have hs2 := hk2.size
  clear hk2 hn2 C1 G1 G2 R1 HK1 d0 d1 d2
  cases hb : nmB A.n fr ns z with
  | false =>
    have HBB := hide hb
    have HV : Hid (lnV' A.n fr A ns z = zs8) := by show _ = _; unfold lnV'; rw [hb]; rfl
    go_wp2_with (first | (refine wpList_build0 rfl 32 rfl _ build8x ?_) | (with_reducible refine wpList_store_row (by with_unfolding_all rfl) 32 _ _ (by with_unfolding_all rfl) (w.heap.size + 1) (iv .u64 zs8) (by with_unfolding_all rfl) (by with_unfolding_all rfl) _ _ (unhide K2) s8z rfl (iv_one _ _) ?_))
    refine bodyPost_ret (v := .tuple #[.agg (iv .u64 zs8), .bool false]) (results_two Try.results22 _ _ (w.heap.size + 1) 32 (iv .u64 zs8) (0, 0) _ _ rfl rfl (setRow_heap _ _ _ _ _ _ (unhide K2)) Try.underlying32 rfl s8z) rfl ?_
    exact ⟨by rw [unhide HV, unhide HBB], Keeps.setRow (unhide HK2) (Or.inr (by omega)) _, fun h => by rw [unhide HBB] at h; cases h⟩
  | true =>
    have hb2 := hb
    have HBB := hide hb
    unfold nmB at hb2
    rw [decide_eq_true_iff] at hb2
    obtain ⟨z0, z1, z2, -⟩ := hb2
    have HV : Hid (lnV' A.n fr A ns z = lineA A z.toNat) := by show _ = _; unfold lnV'; rw [hb]; rfl
    have HNM := hide (unhide HN2 hb)
    have C2 := hide (load_calm (unhide R2) z z.toNat (by omega) (by omega) hon hn)
    rw [lineA_iv] at C2
    have d0 : w2.cell? ⟨w.heap.size, 0, none⟩ = some (.pointer (some ⟨b, 0, none⟩)) := by rw [cell_of_block (unhide K1)]; rfl
    have s8 := s8_of (lineA A z.toNat) (lineA_len _ _)
    have e8 : (iv .u64 zs8).size = (iv .u64 (lineA A z.toNat)).size := by rw [iv_size, iv_size, lineA_len]; rfl
    have n8 := iv_newx .u64 (lineA A z.toNat) 32 8 (lineA_len _ _)
    have z8 : (iv .u64 (lineA A z.toNat)).size = 8 := by rw [iv_size, lineA_len]
    generalize lineA A z.toNat = L at *
    clear hb HN2
    go_wp2_with fail
    refine (unhide C2).mono ?_
    rintro e w3 ⟨rfl, hk3⟩
    have hs3 := hk3.size
    have K3 := hide ((Below.heap_alloc w3 (.cells (iv .u64 L) 32) (w.heap.size + 1) (by omega)).trans ((hk3.block _ (by omega) id).trans (unhide K2)))
    have K4 := hide (heap_new w3 (.cells (iv .u64 L) 32))
    have HK4 : Hid (Keeps (· = M) w (w3.alloc (.cells (iv .u64 L) 32))) := ((unhide HK2).trans' (hk3.mono fun k hk hf => hf.elim)).alloc _
    have HM4 : Hid (NamedM (w3.alloc (.cells (iv .u64 L) 32)) M (ns ++ [z])) := ((unhide HNM).keeps hk3 id).keeps (F := fun _ => False) ((Keeps.refl _ _).alloc _) id
    clear hk3 C2 R2 K1 K2 d0 HK2 HNM
    go_wp2_with (first | (with_reducible refine wpList_load_row (by with_unfolding_all rfl) 32 _ (by with_unfolding_all rfl) w3.heap.size (by with_unfolding_all rfl) _ _ _ _ (unhide K4) Try.underlying32 (by with_unfolding_all rfl) s8 ?_) | (with_reducible refine wpList_store_row (by with_unfolding_all rfl) 32 _ _ (by with_unfolding_all rfl) (w.heap.size + 1) (iv .u64 L) (by with_unfolding_all rfl) (by with_unfolding_all rfl) _ _ (unhide K3) s8 e8 (iv_one _ _) ?_))
    refine bodyPost_ret (v := .tuple #[.agg (iv .u64 L), .bool true]) (results_two Try.results22 _ _ (w.heap.size + 1) 32 (iv .u64 L) (0, 0) _ _ rfl rfl (setRow_heap _ _ _ _ _ _ (unhide K3)) Try.underlying32 rfl s8) rfl ?_
    exact ⟨by rw [unhide HV, unhide HBB], Keeps.setRow (unhide HK4) (Or.inr (by omega)) _, fun _ => (unhide HM4).keeps (F := (· = w.heap.size + 1)) (Keeps.setRow (F := (· = w.heap.size + 1)) (Keeps.refl _ _) (Or.inl rfl) _) (by omega)⟩

end Go.Proofs.Ytnjicfnigfkppab
