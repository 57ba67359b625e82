
/-
  The store, memory and worker that steadfastlaw11's statements begin with.
-/
import Derived.Test.YtinhnnnehhlceaaZImage
import Derived.Test.YtinhnnnehhlceaaZNew
namespace Go.Proofs.Ytinhnnnehhlceaa
open Go.ChangeShapes Go.WideShapes Go.ChangeAt Go.RowKit Go.Joins
set_option maxRecDepth 100000
set_option linter.unusedVariables false
set_option linter.unusedSimpArgs false

def iA (n N : Nat) : Mm := Mm.new N (sI n)
def wk0 : Wk := Wk.new [1, 17, 0, 1] 0
theorem iA_ok (n N : Nat) (h1 : 64 ≤ N) (h2 : N ≤ 1024) : (iA n N).ok 0 := ok_new h1 h2 (sI_in n)
theorem begin0_any (w : World) : Calls Try.prog 25 #[] w fun e w' => e = .returned (.agg (iv .i64 [1, 17, 0, 1])) ∧ Below w.heap.size w w' := by
  have KB := hide ((Below.refl w.heap.size w).alloc (Nat.le_refl _) (.cells (iv .i64 [1, 17, 0, 1]) 61))
  have s4 := s4_sup [1, 17, 0, 1] rfl
  have B := hide (built_sup 1 17 0 1)
  have X4 := hide (iv_one .i64 [1, 17, 0, 1])
  have Z4 : Hid ((Try.prog.info? 61).map (·.zero) = some (some (.agg #[.int .i64 0, .int .i64 0, .int .i64 0, .int .i64 0]))) := by show _ = _; kernel_rfl
  have SZ : Hid ((#[.int .i64 0, .int .i64 0, .int .i64 0, .int .i64 0] : Array Value).size = (iv .i64 [1, 17, 0, 1]).size) := rfl
  generalize iv .i64 [1, 17, 0, 1] = SV at *
  go_enter Try.func25, Try.ntmps25
  go_wp2_with (first | (with_reducible refine wpList_allocZ (by with_unfolding_all rfl) 61 (by with_unfolding_all rfl) #[.int .i64 0, .int .i64 0, .int .i64 0, .int .i64 0] (unhide Z4) ?_) | (with_reducible refine wpList_build4v (by with_unfolding_all rfl) 61 _ _ _ _ (by with_unfolding_all rfl) (.int .i64 1) (.int .i64 17) (.int .i64 0) (.int .i64 1) (by with_unfolding_all rfl) (by with_unfolding_all rfl) (by with_unfolding_all rfl) (by with_unfolding_all rfl) SV (unhide B) ?_) | (with_reducible refine wpList_store_row (by with_unfolding_all rfl) 61 _ _ (by with_unfolding_all rfl) w.heap.size SV (by with_unfolding_all rfl) (by with_unfolding_all rfl) 61 #[.int .i64 0, .int .i64 0, .int .i64 0, .int .i64 0] (heap_new w _) s4 (unhide SZ) (unhide X4) ?_; rw [setRow_alloc]))
  exact bodyPost_ret (v := .agg SV) (results_cell_row Try.results25 _ _ w.heap.size 61 SV (0, 0) _ rfl (heap_new w _) Try.underlying61 rfl s4) rfl ⟨rfl, unhide KB⟩

set_option maxHeartbeats 4000000 in
theorem zmade_any (W w : World) (hW : Keeps (fun _ => False) W w) (G : Nat → Prop) (hG : ∀ k, G k → k < w.heap.size) (N n : Nat) (h1 : 64 ≤ N) (h2 : N ≤ 1024) (hn : n < 31) :
    Calls Try.prog 6 #[.int .i64 (N : Int), .int .i64 (n : Int)] w fun e w' => ∃ m b x, e = .returned (.tuple #[.pointer (some ⟨m, 0, none⟩), .pointer (some ⟨b, 0, none⟩), .pointer (some ⟨x, 0, none⟩)]) ∧ WHas W m b x (fun A w G => Has W w G m A) (sS n N) (iA n N) wk0 w' G ∧ Same G w w' := by
  have CI := hide (image_any N n h1 h2 (by omega) w)
  have HW := hide hW
  have HG := hide hG
  clear hW hG
  go_enter Try.func6, Try.ntmps6
  go_wp2_with fail
  refine (unhide CI).mono ?_
  rintro e w1 ⟨g, rfl, hk, hb, hg⟩
  have CO := hide (of_any w1 (some ⟨g, 0, none⟩) N N (sI n) h1 h2 (Or.inr ⟨g, 0, rfl, fun i hi => by rw [Nat.zero_add]; exact kV_range hi hb⟩))
  have HK := hide ((unhide HW).trans' hk)
  have SM : Hid (Same G w w1) := fun k q => hk.block k (unhide HG k q) id
  have HG1 : Hid (∀ k, G k → k < w1.heap.size) := fun k q => Nat.lt_of_lt_of_le (unhide HG k q) hk.size
  clear hk hb hg CI HW HG
  go_wp2_with fail
  refine (unhide CO).mono ?_
  intro e w2 hm
  obtain ⟨m, rfl, h0, hs⟩ := made_has W (unhide HK) hm G (unhide HG1)
  have H0 : Hid (Has W w2 G m (iA n N)) := h0
  have SM2 : Hid (Same G w w2) := (unhide SM).trans hs
  clear hm h0 hs CO HK SM HG1
  go_wp2_with fail
  refine (ztable_any n (by omega) w2).mono ?_
  rintro e w3 ⟨rfl, hb⟩
  have O1 := hide ((Held.start (Has.stay W m (iA n N)) (unhide H0)).below (Has.stay W m (iA n N)) hb)
  clear hb H0
  go_wp2_with fail
  refine (zdir_any w3).mono ?_
  rintro e w4 ⟨rfl, hb⟩
  have O2 := hide ((unhide O1).below (Has.stay W m (iA n N)) hb)
  clear hb O1
  have CS := hide (sof_any (Has.memL W m) ((Has.stay W m (iA n N)).ls _ _ G (unhide O2).st (fun k hk => Or.inl hk)) 10 (tblF n) dirF (by show 10 ≤ N; omega) h2)
  have SM3 : Hid (Same G w w4) := (unhide SM2).trans (unhide O2).2.2
  have e0 : Hid (ofB (Fr.new 10 (iA n N).n) (tblF n) dirF = true) := ofB_tbl n N hn h1
  clear O2 SM2
  go_wp2_with fail
  refine (unhide CS).mono ?_
  intro e w5 hp
  unfold OfPost at hp
  rw [if_pos (unhide e0)] at hp
  obtain ⟨b, rfl, hs, hsm⟩ := hp
  have HS : Hid (SHas W m b (fun A w G => Has W w G m A) (sS n N) (iA n N) w5 G) := hs
  have SM4 : Hid (Same G w w5) := (unhide SM3).trans hsm
  clear hs hsm CS SM3 e0
  go_wp2_with fail
  refine (begin0_any w5).mono ?_
  rintro e w6 ⟨rfl, hb⟩
  have HS6 := (unhide HS).quiet (Has.memL W m) hb
  have CN := hide (wnew_any (Has.memL W m) HS6.1 1 17 0 1 0)
  have SM5 : Hid (Same G w w6) := (unhide SM4).trans HS6.2
  clear hb HS HS6 SM4
  go_wp2_with fail
  refine (unhide CN).mono ?_
  rintro e w7 ⟨x, rfl, hw, hsm⟩
  have HWK := hide hw
  have SM6 : Hid (Same G w w7) := (unhide SM5).trans hsm
  clear hw hsm CN SM5
  go_wp2_with fail
  go_ret3
  exact ⟨m, b, x, rfl, unhide HWK, unhide SM6⟩

end Go.Proofs.Ytinhnnnehhlceaa
