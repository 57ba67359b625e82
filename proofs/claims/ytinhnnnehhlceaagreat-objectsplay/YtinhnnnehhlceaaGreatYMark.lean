
/-
  The document's Mark and Next.
-/
import Derived.Test.YtinhnnnehhlceaaGreatYHas
import Derived.Test.YtinhnnnehhlceaaGreatPkSto
import Derived.Test.YtinhnnnehhlceaaGreatPkTel
import Derived.Test.YtinhnnnehhlceaaGreatERef
namespace Go.Proofs.YtinhnnnehhlceaaGreat
open Go.ChangeShapes Go.WideShapes Go.ChangeAt Go.RowKit Go.Joins
set_option maxRecDepth 10000
set_option linter.unusedVariables false
set_option linter.unusedSimpArgs false

/-- What is kept behind a Mark. -/
def Sto.kept (S : Sto) (K : Nat → En) : Nat → En := if S.is then K else S.w
set_option maxHeartbeats 1000000 in
theorem ymark_any {W w : World} {z y f g : Nat} {St : Mm → World → (Nat → Prop) → Prop} {S : Sto} {K : Nat → En} {A : Mm} {G : Nat → Prop} (M : MemR W z St) (h : YHas W z y f g St S K A w G) :
    Calls Tryz.prog 87 #[.pointer (some ⟨y, 0, none⟩)] w (Done (YHas W z y f g St S.markS (S.kept K) A) w G (.int .i64 S.markE)) := by
  have cis := h.rep.cis
  cases his : S.is with
  | true =>
    have e1 : S.markS = S := by unfold Sto.markS; rw [his]; rfl
    have e2 : S.markE = 3 := by unfold Sto.markE; rw [his]; rfl
    have e3 : S.kept K = K := by unfold Sto.kept; rw [his]; rfl
    rw [e1, e2, e3]
    rw [his] at cis
    have HH := hide h
    clear h e1 e2 e3
    go_enter Tryz.func87, Tryz.ntmps87
    go_wp2_with fail
    go_ret
    exact ⟨rfl, unhide HH, fun _ _ => rfl⟩
  | false =>
    have e1 : S.markS = ⟨S.F, S.w, S.b, S.d, S.w, true⟩ := by unfold Sto.markS; rw [his]; rfl
    have e2 : S.markE = 0 := by unfold Sto.markE; rw [his]; rfl
    have e3 : S.kept K = S.w := by unfold Sto.kept; rw [his]; rfl
    rw [e1, e2, e3]
    rw [his] at cis
    have r1 := h.rep.putK S.w
    have k1 := keeps_cells y (tabV S.w).toList w 304
    have r2 := r1.putIs true
    have k2 : Keeps (· = y) w ((w.setCells y 304 (tabV S.w).toList).setCell ⟨y, 451, none⟩ (.bool true)) := Keeps.setCell (F := (· = y)) (p := ⟨y, 451, none⟩) k1 rfl _
    have rw3 : YRep z f ⟨S.F, S.w, S.b, S.d, S.w, true⟩ S.w ((w.setCells y 304 (tabV S.w).toList).setCell ⟨y, 451, none⟩ (.bool true)) y := r2
    have HD := hide (h.turned M rw3 rfl k2)
    have RW := hide h.rep.rw
    have s49 : (Tryz.prog.info? 42).map (·.size) = some (tabV S.w).toList.length := by rw [Array.length_toList, tabV_size]; kernel_rfl
    have s49' : (Tryz.prog.info? 42).map (·.size) = some (tabV S.w).size := by rw [tabV_size]; kernel_rfl
    have X1 := hide (tabV_one S.w)
    have TH : Hid (w.there y 304 (tabV S.w).size) := by rw [tabV_size]; exact Blk.there h.rep 304 147 (by decide)
    have c2 : ((w.setCells y 304 (tabV S.w).toList)).cell? ⟨y, 451, none⟩ = some (.bool false) := by have := r1.cis; rw [his] at this; exact this
    have f2 : ((w.setCells y 304 (tabV S.w).toList)).frozen? ⟨y, 451, none⟩ = false := r1.fr 451
    clear h e1 e2 e3 r1 r2 k1 k2 rw3
    generalize tabV S.w = TW at *
    go_enter Tryz.func87, Tryz.ntmps87
    go_upto_region 4 with (first | (with_reducible refine wpList_load_mid (by with_unfolding_all rfl) 42 _ (by with_unfolding_all rfl) y 2 (by with_unfolding_all rfl) TW.toList _ (unhide RW) Tryz.underlying42 (by with_unfolding_all rfl) s49 ?_) | (with_reducible refine wpList_store_mid (by with_unfolding_all rfl) 42 _ _ (by with_unfolding_all rfl) y 304 TW (by with_unfolding_all rfl) (by with_unfolding_all rfl) (unhide TH) s49' (unhide X1) ?_))
    clear cis
    generalize w.setCells y 304 TW.toList = w1 at *
    go_wp2_with fail
    go_ret
    exact ⟨rfl, unhide HD⟩

set_option maxHeartbeats 8000000 in
theorem ynext_any {z y f : Nat} {S : Sto} {K : Nat → En} {w : World} (h : YRep z f S K w y) (kz : Int) :
    Calls Tryz.prog 62 #[.pointer (some ⟨y, 0, none⟩), .int .i64 kz] w fun e w' => e = .returned (.tuple #[.int .i64 (S.nextI kz), .int .i64 (S.nextV kz), .int .i64 (S.nextE kz)]) ∧ Keeps (fun _ => False) w w' := by
  have H := hide h
  clear h
  cases hmk : mkB kz with
  | true =>
    have HMK : Hid (mkB kz = true) := hmk
    rcases (mkB_iff kz).1 hmk with hk | hk | hk
    · subst hk
      clear hmk
      obtain ⟨kz, hkz⟩ : ∃ kz : Int, kz = 1 := ⟨_, rfl⟩
      rw [← hkz] at HMK
      have e1 : (kz != 1) = false := by rw [hkz]; rfl
      rw [← hkz]
      clear hkz
      go_enter Tryz.func62, Tryz.ntmps62
      go_wp2_with fail
      go_loopw [7] (fun c wr => ∃ j : Nat, j ≤ 49 ∧ c = .int .i64 j ∧ (∀ i, i < j → opB (S.w i) = false) ∧ Keeps (fun _ => False) w wr) (fun c _ => 49 - (intOf c).toNat)
      case atStart => exact ⟨0, by omega, rfl, fun i hi => by omega, Keeps.refl _ _⟩
      case round =>
        obtain ⟨j, hj, rfl, hn, hk⟩ := hrel
        have HN := hide hn
        have KK := hide hk
        clear hn hk
        by_cases hlt : j < 49
        · have hlt1 : (j : Int) < 49 := by omega
          have RE := hide (((unhide H).keeps (unhide KK) id).en j hlt)
          have CV := hide (fun w' (hk : Keeps (fun _ => False) w w') => ((unhide H).keeps hk id).cv j hlt)
          have CO := hide (fun w' => reopen_any (S.w j) w')
          have NS := hide (fun (q : opB (S.w j) = true) => nx_some hlt q (unhide HN))
          have HN2 : Hid (opB (S.w j) = false → ∀ i, i < j + 1 → opB (S.w i) = false) := fun q i hi => by
            by_cases e : i = j
            · rw [e]; exact q
            · exact unhide HN i (by omega)
          have NV : Hid (S.nx = some j → S.nextE kz = 0 ∧ S.nextI kz = j ∧ S.nextV kz = (S.w j).v) := fun q => by
            unfold Sto.nextE Sto.nextI Sto.nextV; rw [if_pos (unhide HMK), if_pos (unhide HMK), if_pos (unhide HMK), q]; exact ⟨rfl, rfl, rfl⟩
          have s3 : (Tryz.prog.info? 41).map (·.size) = some (ev (S.w j)).toList.length := size3
          obtain ⟨X, hX⟩ : ∃ X, X = S.w j := ⟨_, rfl⟩
          rw [← hX] at RE CV CO NS HN2 NV s3
          clear hX
          cases hop : opB X with
          | true =>
            have NX := hide (unhide NV (unhide NS hop))
            rw [hop] at CO
            clear NS NV HN2 HN
            go_wp2_with (with_reducible refine wpList_load_mid (by with_unfolding_all rfl) 41 _ (by with_unfolding_all rfl) y (2 + j * 3) (by with_unfolding_all rfl) (ev X).toList _ (unhide RE) Tryz.underlying41 (by with_unfolding_all rfl) s3 ?_)
            refine (unhide CO _).mono ?_
            rintro e w1 ⟨rfl, hb⟩
            have K1 := hide ((unhide KK).trans' (Keeps.of_below hb))
            have cv := unhide CV _ (unhide K1)
            clear hb CO RE KK
            generalize X.v = xv at *
            go_wp2_with fail
            go_region
            go_wp2_with fail
            go_ret3
            obtain ⟨e1, e2, e3⟩ := unhide NX
            rw [e1, e2, e3]
            exact ⟨rfl, (unhide K1).drew⟩
          | false =>
            have HN3 := hide (unhide HN2 hop)
            rw [hop] at CO
            clear NS NV HN2 HN CV
            go_wp2_with (with_reducible refine wpList_load_mid (by with_unfolding_all rfl) 41 _ (by with_unfolding_all rfl) y (2 + j * 3) (by with_unfolding_all rfl) (ev X).toList _ (unhide RE) Tryz.underlying41 (by with_unfolding_all rfl) s3 ?_)
            refine (unhide CO _).mono ?_
            rintro e w1 ⟨rfl, hb⟩
            have K1 := hide ((unhide KK).trans' (Keeps.of_below hb))
            clear hb CO RE KK
            go_wp2_with fail
            go_roundw
            case rel => exact ⟨j + 1, by omega, by go_num, unhide HN3, unhide K1⟩
            case measure => simp [intOf]; omega
        · obtain rfl : j = 49 := by omega
          have NX : Hid (S.nextE kz = 34 ∧ S.nextI kz = 0 ∧ S.nextV kz = 0) := by
            have q := nx_none (unhide HN)
            show _ ∧ _ ∧ _
            unfold Sto.nextE Sto.nextI Sto.nextV; rw [if_pos (unhide HMK), if_pos (unhide HMK), if_pos (unhide HMK), q]; exact ⟨rfl, rfl, rfl⟩
          go_wp2_with fail
          go_ret3
          obtain ⟨e1, e2, e3⟩ := unhide NX
          rw [e1, e2, e3]
          exact ⟨rfl, unhide KK⟩
    · have e1 : (kz != 1) = true := by rw [hk]; rfl
      have e2 : (kz != 2) = false := by rw [hk]; rfl
      clear hmk hk
      go_enter Tryz.func62, Tryz.ntmps62
      go_wp2_with fail
      go_loopw [7] (fun c wr => ∃ j : Nat, j ≤ 49 ∧ c = .int .i64 j ∧ (∀ i, i < j → opB (S.w i) = false) ∧ Keeps (fun _ => False) w wr) (fun c _ => 49 - (intOf c).toNat)
      case atStart => exact ⟨0, by omega, rfl, fun i hi => by omega, Keeps.refl _ _⟩
      case round =>
        obtain ⟨j, hj, rfl, hn, hk⟩ := hrel
        have HN := hide hn
        have KK := hide hk
        clear hn hk
        by_cases hlt : j < 49
        · have hlt1 : (j : Int) < 49 := by omega
          have RE := hide (((unhide H).keeps (unhide KK) id).en j hlt)
          have CV := hide (fun w' (hk : Keeps (fun _ => False) w w') => ((unhide H).keeps hk id).cv j hlt)
          have CO := hide (fun w' => reopen_any (S.w j) w')
          have NS := hide (fun (q : opB (S.w j) = true) => nx_some hlt q (unhide HN))
          have HN2 : Hid (opB (S.w j) = false → ∀ i, i < j + 1 → opB (S.w i) = false) := fun q i hi => by
            by_cases e : i = j
            · rw [e]; exact q
            · exact unhide HN i (by omega)
          have NV : Hid (S.nx = some j → S.nextE kz = 0 ∧ S.nextI kz = j ∧ S.nextV kz = (S.w j).v) := fun q => by
            unfold Sto.nextE Sto.nextI Sto.nextV; rw [if_pos (unhide HMK), if_pos (unhide HMK), if_pos (unhide HMK), q]; exact ⟨rfl, rfl, rfl⟩
          have s3 : (Tryz.prog.info? 41).map (·.size) = some (ev (S.w j)).toList.length := size3
          obtain ⟨X, hX⟩ : ∃ X, X = S.w j := ⟨_, rfl⟩
          rw [← hX] at RE CV CO NS HN2 NV s3
          clear hX
          cases hop : opB X with
          | true =>
            have NX := hide (unhide NV (unhide NS hop))
            rw [hop] at CO
            clear NS NV HN2 HN
            go_wp2_with (with_reducible refine wpList_load_mid (by with_unfolding_all rfl) 41 _ (by with_unfolding_all rfl) y (2 + j * 3) (by with_unfolding_all rfl) (ev X).toList _ (unhide RE) Tryz.underlying41 (by with_unfolding_all rfl) s3 ?_)
            refine (unhide CO _).mono ?_
            rintro e w1 ⟨rfl, hb⟩
            have K1 := hide ((unhide KK).trans' (Keeps.of_below hb))
            have cv := unhide CV _ (unhide K1)
            clear hb CO RE KK
            generalize X.v = xv at *
            go_wp2_with fail
            go_region
            go_wp2_with fail
            go_ret3
            obtain ⟨e1, e2, e3⟩ := unhide NX
            rw [e1, e2, e3]
            exact ⟨rfl, (unhide K1).drew⟩
          | false =>
            have HN3 := hide (unhide HN2 hop)
            rw [hop] at CO
            clear NS NV HN2 HN CV
            go_wp2_with (with_reducible refine wpList_load_mid (by with_unfolding_all rfl) 41 _ (by with_unfolding_all rfl) y (2 + j * 3) (by with_unfolding_all rfl) (ev X).toList _ (unhide RE) Tryz.underlying41 (by with_unfolding_all rfl) s3 ?_)
            refine (unhide CO _).mono ?_
            rintro e w1 ⟨rfl, hb⟩
            have K1 := hide ((unhide KK).trans' (Keeps.of_below hb))
            clear hb CO RE KK
            go_wp2_with fail
            go_roundw
            case rel => exact ⟨j + 1, by omega, by go_num, unhide HN3, unhide K1⟩
            case measure => simp [intOf]; omega
        · obtain rfl : j = 49 := by omega
          have NX : Hid (S.nextE kz = 34 ∧ S.nextI kz = 0 ∧ S.nextV kz = 0) := by
            have q := nx_none (unhide HN)
            show _ ∧ _ ∧ _
            unfold Sto.nextE Sto.nextI Sto.nextV; rw [if_pos (unhide HMK), if_pos (unhide HMK), if_pos (unhide HMK), q]; exact ⟨rfl, rfl, rfl⟩
          go_wp2_with fail
          go_ret3
          obtain ⟨e1, e2, e3⟩ := unhide NX
          rw [e1, e2, e3]
          exact ⟨rfl, unhide KK⟩
    · have e1 : (kz != 1) = true := by rw [hk]; rfl
      have e2 : (kz != 2) = true := by rw [hk]; rfl
      have e3 : (kz != 4) = false := by rw [hk]; rfl
      clear hmk hk
      go_enter Tryz.func62, Tryz.ntmps62
      go_wp2_with fail
      go_loopw [7] (fun c wr => ∃ j : Nat, j ≤ 49 ∧ c = .int .i64 j ∧ (∀ i, i < j → opB (S.w i) = false) ∧ Keeps (fun _ => False) w wr) (fun c _ => 49 - (intOf c).toNat)
      case atStart => exact ⟨0, by omega, rfl, fun i hi => by omega, Keeps.refl _ _⟩
      case round =>
        obtain ⟨j, hj, rfl, hn, hk⟩ := hrel
        have HN := hide hn
        have KK := hide hk
        clear hn hk
        by_cases hlt : j < 49
        · have hlt1 : (j : Int) < 49 := by omega
          have RE := hide (((unhide H).keeps (unhide KK) id).en j hlt)
          have CV := hide (fun w' (hk : Keeps (fun _ => False) w w') => ((unhide H).keeps hk id).cv j hlt)
          have CO := hide (fun w' => reopen_any (S.w j) w')
          have NS := hide (fun (q : opB (S.w j) = true) => nx_some hlt q (unhide HN))
          have HN2 : Hid (opB (S.w j) = false → ∀ i, i < j + 1 → opB (S.w i) = false) := fun q i hi => by
            by_cases e : i = j
            · rw [e]; exact q
            · exact unhide HN i (by omega)
          have NV : Hid (S.nx = some j → S.nextE kz = 0 ∧ S.nextI kz = j ∧ S.nextV kz = (S.w j).v) := fun q => by
            unfold Sto.nextE Sto.nextI Sto.nextV; rw [if_pos (unhide HMK), if_pos (unhide HMK), if_pos (unhide HMK), q]; exact ⟨rfl, rfl, rfl⟩
          have s3 : (Tryz.prog.info? 41).map (·.size) = some (ev (S.w j)).toList.length := size3
          obtain ⟨X, hX⟩ : ∃ X, X = S.w j := ⟨_, rfl⟩
          rw [← hX] at RE CV CO NS HN2 NV s3
          clear hX
          cases hop : opB X with
          | true =>
            have NX := hide (unhide NV (unhide NS hop))
            rw [hop] at CO
            clear NS NV HN2 HN
            go_wp2_with (with_reducible refine wpList_load_mid (by with_unfolding_all rfl) 41 _ (by with_unfolding_all rfl) y (2 + j * 3) (by with_unfolding_all rfl) (ev X).toList _ (unhide RE) Tryz.underlying41 (by with_unfolding_all rfl) s3 ?_)
            refine (unhide CO _).mono ?_
            rintro e w1 ⟨rfl, hb⟩
            have K1 := hide ((unhide KK).trans' (Keeps.of_below hb))
            have cv := unhide CV _ (unhide K1)
            clear hb CO RE KK
            generalize X.v = xv at *
            go_wp2_with fail
            go_region
            go_wp2_with fail
            go_ret3
            obtain ⟨e1, e2, e3⟩ := unhide NX
            rw [e1, e2, e3]
            exact ⟨rfl, (unhide K1).drew⟩
          | false =>
            have HN3 := hide (unhide HN2 hop)
            rw [hop] at CO
            clear NS NV HN2 HN CV
            go_wp2_with (with_reducible refine wpList_load_mid (by with_unfolding_all rfl) 41 _ (by with_unfolding_all rfl) y (2 + j * 3) (by with_unfolding_all rfl) (ev X).toList _ (unhide RE) Tryz.underlying41 (by with_unfolding_all rfl) s3 ?_)
            refine (unhide CO _).mono ?_
            rintro e w1 ⟨rfl, hb⟩
            have K1 := hide ((unhide KK).trans' (Keeps.of_below hb))
            clear hb CO RE KK
            go_wp2_with fail
            go_roundw
            case rel => exact ⟨j + 1, by omega, by go_num, unhide HN3, unhide K1⟩
            case measure => simp [intOf]; omega
        · obtain rfl : j = 49 := by omega
          have NX : Hid (S.nextE kz = 34 ∧ S.nextI kz = 0 ∧ S.nextV kz = 0) := by
            have q := nx_none (unhide HN)
            show _ ∧ _ ∧ _
            unfold Sto.nextE Sto.nextI Sto.nextV; rw [if_pos (unhide HMK), if_pos (unhide HMK), if_pos (unhide HMK), q]; exact ⟨rfl, rfl, rfl⟩
          go_wp2_with fail
          go_ret3
          obtain ⟨e1, e2, e3⟩ := unhide NX
          rw [e1, e2, e3]
          exact ⟨rfl, unhide KK⟩
  | false =>
    have hn : ¬ (kz = 1 ∨ kz = 2 ∨ kz = 4) := fun q => by rw [(mkB_iff kz).2 q] at hmk; cases hmk
    have e1 : (kz != 1) = true := by simp; omega
    have e2 : (kz != 2) = true := by simp; omega
    have e3 : (kz != 4) = true := by simp; omega
    have NX : S.nextE kz = 1 ∧ S.nextI kz = 0 ∧ S.nextV kz = 0 := by
      unfold Sto.nextE Sto.nextI Sto.nextV; rw [if_neg (by rw [hmk]; decide), if_neg (by rw [hmk]; decide), if_neg (by rw [hmk]; decide)]; exact ⟨rfl, rfl, rfl⟩
    rw [NX.1, NX.2.1, NX.2.2]
    clear hn hmk NX
    go_enter Tryz.func62, Tryz.ntmps62
    go_wp2_with fail
    go_ret3
    exact ⟨rfl, Keeps.refl _ _⟩

end Go.Proofs.YtinhnnnehhlceaaGreat
