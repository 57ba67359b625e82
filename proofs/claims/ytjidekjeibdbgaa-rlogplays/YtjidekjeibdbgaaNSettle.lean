
/-
  What (*cell).settle does: the first n stores of a line are sure; nothing else turns.
-/
import Derived.Test.YtjidekjeibdbgaaProg
import Derived.Test.YtjidekjeibdbgaaChecked
import Derived.Test.YtjidekjeibdbgaaNRep
import Derived.Deep.QuietTactic
import Derived.BigQuiet
import Derived.BigRegion
import Derived.Deep.Cut
namespace Go.Proofs.Ytjidekjeibdbgaa
open Go.ChangeShapes Go.WideShapes Go.ChangeAt Go.RowKit Go.Joins
set_option linter.unusedVariables false

def Cel.settle (C : Cel) (n : Nat) : Cel := ⟨C.l.settle n, if C.cap = n then C.ad else C.ad.map fun p => (p.1, p.2 + n * 2), C.cap - n⟩
theorem Cel.settle_zero (C : Cel) : C.settle 0 = C := by
  cases C with | mk l ad cap =>
  unfold Cel.settle
  simp only [Ln.settle_zero, Nat.zero_mul, Nat.add_zero, Nat.sub_zero]
  split <;> simp

/-- The lines behind k stores made sure, of a line that lies at o. -/
def part1 (f : Nat → Value) (o : Nat) (C : Cel) (k : Nat) : Nat → Value := fun i => if o ≤ i ∧ i < o + 8 then .int .u64 (runS (C.l.t.take k) C.l.s (i - o)) else f i

/-- An element of an array of integers, by value. -/
theorem run_index_int (W : World) (cs : Array Value) (k : IntKind) (i : Nat) (h8 : i < 8) (v : Value) (h : cs[i]? = some v) :
    Sem.run Try.prog (Instr.index 78 (.agg cs) (.int k (i : Int))) W = .ok v W := by
  have h8' : (0 : Int) ≤ (i : Int) ∧ (i : Int) < 8 := by omega
  simp [Instr.index, run_underlying Try.underlying78, asIntOf, h8, go_sem, part, h]

def part2 (f : Nat → Value) (o : Nat) (C : Cel) (n j : Nat) : Nat → Value := fun i => if o + 17 ≤ i ∧ i < o + 17 + j then .int .i64 ((C.l.f (i - (o + 17)) - n : Nat) : Int) else f i

theorem part2_next {w : World} {c N o n j : Nat} {T : TypeId} {f : Nat → Value} {C : Cel} (h : Blk w c N T (part2 f o C n j)) (hj : j < 8) {z : Int} (hz : z = ((C.l.f j - n : Nat) : Int)) :
    Blk (w.setCell ⟨c, o + 17 + j, none⟩ (.int .i64 z)) c N T (part2 f o C n (j + 1)) := by
  refine (h.set _ _).ext fun i _ => ?_
  unfold part2
  by_cases hi : i = o + 17 + j
  · subst hi; rw [upd_same, if_pos (by omega), show o + 17 + j - (o + 17) = j by omega, hz]
  · rw [upd_other _ _ _ _ hi]
    by_cases h2 : o + 17 ≤ i ∧ i < o + 17 + j
    · rw [if_pos h2, if_pos (by omega)]
    · rw [if_neg h2, if_neg (by omega)]

theorem part_all {w : World} {c N o n : Nat} {T : TypeId} {f : Nat → Value} {C : Cel} (hf : ∀ j, j < 25 → f (o + j) = encAt C j) (h : Blk w c N T (part2 (upd (part1 f o C n) (o + 16) (encAt (C.settle n) 16)) o C n 8)) :
    Blk w c N T (putC f o (C.settle n)) := by
  refine h.ext fun i _ => ?_
  unfold putC
  by_cases h1 : o ≤ i ∧ i < o + 25
  · rw [if_pos h1]
    unfold part2
    by_cases h2 : o + 17 ≤ i ∧ i < o + 17 + 8
    · rw [if_pos h2]
      simp [encAt, Cel.settle, Ln.settle, show ¬ (i - o < 8) by omega, show ¬ (i - o < 16) by omega, show ¬ (i - o = 16) by omega, show i - o - 17 = i - (o + 17) by omega]
    · rw [if_neg h2]
      by_cases h3 : i = o + 16
      · subst h3; rw [upd_same, show o + 16 - o = 16 by omega]
      · rw [upd_other _ _ _ _ h3]
        unfold part1
        by_cases h4 : o ≤ i ∧ i < o + 8
        · rw [if_pos h4]; simp [encAt, Cel.settle, Ln.settle, show i - o < 8 by omega]
        · rw [if_neg h4]
          have := hf (i - o) (by omega)
          rw [show o + (i - o) = i by omega] at this
          rw [this]
          have hh : (C.settle n).l.has = C.l.has := Ln.settle_has _ _
          simp [encAt, hh, show ¬ (i - o < 8) by omega, show i - o < 16 by omega]
  · rw [if_neg h1]
    unfold part2
    rw [if_neg (by omega), upd_other _ _ _ _ (by omega)]
    unfold part1
    rw [if_neg (by omega)]

set_option maxRecDepth 100000 in
theorem settle_any (C : Cel) (hok : C.l.ok) (n : Nat) (hn : n ≤ C.l.t.length) (hlen : C.l.t.length ≤ 1099511627776) (c o N : Nat) (f : Nat → Value) (w : World) (ho : o + 25 ≤ N) (hb : Blk w c N 80 f)
    (hf : ∀ j, j < 25 → f (o + j) = encAt C j) (hrow : Row 86 w C) (hcb : C.blk ≠ some c) :
    Calls Try.prog 39 #[.pointer (some ⟨c, o, none⟩), .int .i64 n] w fun e w' => e = .returned (.tuple #[]) ∧ Blk w' c N 80 (putC f o (C.settle n)) ∧ Keeps (· = c) w w' := by
  have hput : putC f o C = f := by
    funext i
    unfold putC
    by_cases h : o ≤ i ∧ i < o + 25
    · rw [if_pos h, ← hf (i - o) (by omega), show o + (i - o) = i by omega]
    · rw [if_neg h]
  by_cases h0 : n = 0
  · subst h0
    go_enter Try.func39, Try.ntmps39
    go_wp2
    refine bodyPost_ret (results_none rfl _ _ _) rfl ?_
    rw [Cel.settle_zero, hput]
    exact ⟨rfl, hb, Keeps.refl _ _⟩
  · rcases hrow with ⟨_, _, h⟩ | ⟨g, off, cur, had, hg, hsz, hlc, hcm, hcur⟩
    · rw [h] at hn; simp at hn; omega
    have hgc : g ≠ c := fun e => hcb (by rw [← e]; simp [Cel.blk, had])
    have hhead : w.cell? ⟨c, o + 16, none⟩ = some (.slice (some ⟨g, off, none⟩) C.l.t.length C.cap) := by
      rw [hb.cell _ (by omega), hf 16 (by omega)]; simp [encAt, had, slot]
    have h0' : ((n : Int) == 0) = false := by simp; omega
    have hn1 : (n : Int) ≤ (C.cap : Int) := by omega
    go_enter Try.func39, Try.ntmps39
    go_wp2
    go_loopw [17] (fun i wr => ∃ k : Nat, k ≤ n ∧ i = .int .i64 k ∧ Keeps (· = c) w wr ∧ Blk wr c N 80 (part1 f o C k)) (fun i _ => n - (intOf i).toNat)
    case atStart =>
      refine ⟨0, by omega, rfl, Keeps.refl _ _, hb.ext fun i _ => ?_⟩
      unfold part1
      by_cases h : o ≤ i ∧ i < o + 8
      · rw [if_pos h, List.take_zero]
        have := hf (i - o) (by omega)
        rw [show o + (i - o) = i by omega] at this
        rw [this]
        simp [encAt, runS, show i - o < 8 by omega]
      · rw [if_neg h]
    case round =>
      obtain ⟨k, hk, rfl, hkp, hbr⟩ := hrel
      by_cases hlt : k < n
      · have hgr : wr.heap[g]? = some (.cells cur 86 (0, 0)) := by
          rw [hkp.block g (lt_of_block hg) hgc]; exact hg
        obtain ⟨e0, e1⟩ := hcur k (by omega)
        obtain ⟨p1, p2⟩ := hok.2.1 (C.l.t[k]) (by simp)
        have hset := runS_take C.l.t k (by omega) C.l.s
        obtain ⟨q, hq⟩ : ∃ q, q = (C.l.t[k]).1 := ⟨_, rfl⟩
        obtain ⟨z, hz⟩ : ∃ z, z = (C.l.t[k]).2 := ⟨_, rfl⟩
        rw [← hq] at e0 hset p1
        rw [← hz] at e1 hset p2
        have HS := hide hset
        clear hset hq hz
        have c0 : wr.cell? ⟨g, off + k * 2, none⟩ = some (.int .i64 q) := by rw [cell_of_block hgr]; exact e0
        have c1 : wr.cell? ⟨g, off + k * 2 + 1, none⟩ = some (.int .u64 z) := by rw [cell_of_block hgr]; exact e1
        have c2 : wr.cell? ⟨c, o + q, none⟩ = some (part1 f o C k (o + q)) := hbr.cell _ (by omega)
        have c3 : wr.frozen? ⟨c, o + q, none⟩ = false := hbr.free _
        have hcl := hbr.lt
        have q0 : (0 : Int) ≤ (q : Int) := by omega
        have q8 : (q : Int) < 8 := by omega
        generalize part1 f o C k (o + q) = old at *
        have HB := hide hbr
        have HK := hide hkp
        clear hbr hkp e0 e1 hgr hhead
        go_wp2
        go_region
        go_wp2
        go_roundw
        case rel =>
          refine ⟨k + 1, by omega, by go_num, ?_, ?_⟩
          · exact ((Keeps.setCell (unhide HK) (by rfl) _).alloc _).drew
          · refine (((unhide HB).set (o + q) (.int .u64 z)).alloc _).drew.ext fun i _ => ?_
            unfold part1
            rw [unhide HS]
            by_cases hi : i = o + q
            · subst hi; rw [upd_same, if_pos (by omega), show o + q - o = q by omega, upd_same]
            · rw [upd_other _ _ _ _ hi]
              by_cases h : o ≤ i ∧ i < o + 8
              · rw [if_pos h, if_pos h, upd_other _ _ _ _ (by omega)]
              · rw [if_neg h, if_neg h]
        case measure => simp [intOf]; omega
      · obtain rfl : k = n := by omega
        have hh : wr.cell? ⟨c, o + 16, none⟩ = some (.slice (some ⟨g, off, none⟩) C.l.t.length C.cap) := by
          rw [hbr.cell _ (by omega)]; unfold part1; rw [if_neg (by omega), hf 16 (by omega)]; simp [encAt, had, slot]
        have h1 : wr.frozen? ⟨c, o + 16, none⟩ = false := hbr.free _
        have hkl : (k : Int) ≤ (C.l.t.length : Int) := by omega
        have HB := hide hbr
        have HK := hide hkp
        clear hbr hkp hhead
        have s8 : (Try.prog.info? 78).map (·.size) = some ((List.range 8).map fun j => Value.int .i64 (C.l.f j)).length := by
          rw [List.length_map, List.length_range]; kernel_rfl
        have HE : Hid (encAt (C.settle k) 16 = .slice (slot (C.settle k).ad) (C.l.t.length - k) (C.cap - k)) := by show _ = _; simp [encAt, Cel.settle, Ln.settle]
        by_cases hck : C.cap = k
        · have HD : Hid (slot (C.settle k).ad = some ⟨g, off, none⟩) := by show _ = _; simp [Cel.settle, hck, had, slot]
          have HZ : Hid (C.cap - k = 0) := by show _ = _; omega
          go_upto_region 7 with fail
          have HB2 : Hid (Blk (wr.setCell ⟨c, o + 16, none⟩ (.slice (some ⟨g, off, none⟩) (C.l.t.length - k) 0)) c N 80 (upd (part1 f o C k) (o + 16) (encAt (C.settle k) 16))) := by
            rw [unhide HE, unhide HD, unhide HZ]; exact (unhide HB).set _ _
          have HK2 : Hid (Keeps (· = c) w (wr.setCell ⟨c, o + 16, none⟩ (.slice (some ⟨g, off, none⟩) (C.l.t.length - k) 0))) := Keeps.setCell (unhide HK) (by rfl) _
          generalize wr.setCell ⟨c, o + 16, none⟩ (.slice (some ⟨g, off, none⟩) (C.l.t.length - k) 0) = V at *
          have hR : V.rangeAt c (o + 17) ((List.range 8).map fun j => .int .i64 (C.l.f j)) := (unhide HB2).range (o + 17) 8 (by omega) _ (fun j hj => by
            rw [upd_other _ _ _ _ (by omega)]
            unfold part1; rw [if_neg (by omega), show o + 17 + j = o + (17 + j) by omega, hf (17 + j) (by omega)]
            simp [encAt, show ¬ (17 + j < 8) by omega, show ¬ (17 + j < 16) by omega, show ¬ (17 + j = 16) by omega])
          have HR := hide hR
          clear hR HB HK hh h1 HD HE wr
          go_wp2_with (refine wpList_load_mid rfl 78 _ rfl c (o + 17) rfl _ _ (unhide HR) Try.underlying78 rfl s8 ?_)
          go_loopw [43] (fun i wv => ∃ j : Nat, j ≤ 8 ∧ i = .int .i64 j ∧ Keeps (· = c) w wv ∧ Blk wv c N 80 (part2 (upd (part1 f o C k) (o + 16) (encAt (C.settle k) 16)) o C k j)) (fun i _ => 8 - (intOf i).toNat)
          case atStart => exact ⟨0, by omega, rfl, unhide HK2, (unhide HB2).ext fun i _ => by unfold part2; rw [if_neg (by omega)]⟩
          case round =>
            clear HB2 HK2 HR
            obtain ⟨j, hj, rfl, hkv, hbv⟩ := hrel
            by_cases hlj : j < 8
            · have hix : ∀ W, Sem.run Try.prog (Instr.index 78 (.agg #[.int .i64 (C.l.f 0 : Nat), .int .i64 (C.l.f 1 : Nat), .int .i64 (C.l.f 2 : Nat), .int .i64 (C.l.f 3 : Nat), .int .i64 (C.l.f 4 : Nat), .int .i64 (C.l.f 5 : Nat), .int .i64 (C.l.f 6 : Nat), .int .i64 (C.l.f 7 : Nat)]) (.int .i64 (j : Int))) W = .ok (.int .i64 (C.l.f j : Nat)) W :=
                fun W => run_index_int W (tab 8 fun j => .int .i64 (C.l.f j : Nat)) .i64 j hlj _ (tab_get _ _ _ hlj)
              have hfj := hok.2.2 j
              have d2 : wr.cell? ⟨c, o + 17 + j, none⟩ = some (part2 (upd (part1 f o C k) (o + 16) (encAt (C.settle k) 16)) o C k j (o + 17 + j)) := hbv.cell _ (by omega)
              have d3 : wr.frozen? ⟨c, o + 17 + j, none⟩ = false := hbv.free _
              generalize part2 (upd (part1 f o C k) (o + 16) (encAt (C.settle k) 16)) o C k j (o + 17 + j) = old at *
              obtain ⟨x, hx⟩ : ∃ x, x = C.l.f j := ⟨_, rfl⟩
              simp only [← hx] at hfj hix
              have HX := hide hx
              clear hx
              have HBV := hide hbv
              have HKV := hide hkv
              clear hbv hkv
              by_cases hxk : k ≤ x
              · have hmx : (0 : Int) ≤ (x : Int) - (k : Int) := by omega
                have HV : Hid ((x : Int) - (k : Int) = ((C.l.f j - k : Nat) : Int)) := by show _ = _; rw [← unhide HX]; omega
                go_wp2
                go_roundw
                case rel => exact ⟨j + 1, by omega, by go_num, Keeps.setCell (unhide HKV) (by rfl) _, part2_next (unhide HBV) hlj (unhide HV)⟩
                case measure => simp [intOf]; omega
              · have hmx : ((x : Int) - (k : Int)) < 0 := by omega
                have HV : Hid ((0 : Int) = ((C.l.f j - k : Nat) : Int)) := by show _ = _; rw [← unhide HX]; omega
                go_wp2
                go_roundw
                case rel => exact ⟨j + 1, by omega, by go_num, Keeps.setCell (unhide HKV) (by rfl) _, part2_next (unhide HBV) hlj (unhide HV)⟩
                case measure => simp [intOf]; omega
            · obtain rfl : j = 8 := by omega
              have HBV := hide (part_all hf hbv)
              have HKV := hide hkv
              clear hbv hkv
              go_wp2
              go_end0
              exact ⟨rfl, unhide HBV, unhide HKV⟩
        · have HD : Hid (slot (C.settle k).ad = some ⟨g, off + k * 2, none⟩) := by show _ = _; simp [Cel.settle, hck, had, slot]
          go_upto_region 7 with fail
          have HB2 : Hid (Blk (wr.setCell ⟨c, o + 16, none⟩ (.slice (some ⟨g, off + k * 2, none⟩) (C.l.t.length - k) (C.cap - k))) c N 80 (upd (part1 f o C k) (o + 16) (encAt (C.settle k) 16))) := by
            rw [unhide HE, unhide HD]; exact (unhide HB).set _ _
          have HK2 : Hid (Keeps (· = c) w (wr.setCell ⟨c, o + 16, none⟩ (.slice (some ⟨g, off + k * 2, none⟩) (C.l.t.length - k) (C.cap - k)))) := Keeps.setCell (unhide HK) (by rfl) _
          generalize wr.setCell ⟨c, o + 16, none⟩ (.slice (some ⟨g, off + k * 2, none⟩) (C.l.t.length - k) (C.cap - k)) = V at *
          have hR : V.rangeAt c (o + 17) ((List.range 8).map fun j => .int .i64 (C.l.f j)) := (unhide HB2).range (o + 17) 8 (by omega) _ (fun j hj => by
            rw [upd_other _ _ _ _ (by omega)]
            unfold part1; rw [if_neg (by omega), show o + 17 + j = o + (17 + j) by omega, hf (17 + j) (by omega)]
            simp [encAt, show ¬ (17 + j < 8) by omega, show ¬ (17 + j < 16) by omega, show ¬ (17 + j = 16) by omega])
          have HR := hide hR
          clear hR HB HK hh h1 HD HE wr
          go_wp2_with (refine wpList_load_mid rfl 78 _ rfl c (o + 17) rfl _ _ (unhide HR) Try.underlying78 rfl s8 ?_)
          go_loopw [43] (fun i wv => ∃ j : Nat, j ≤ 8 ∧ i = .int .i64 j ∧ Keeps (· = c) w wv ∧ Blk wv c N 80 (part2 (upd (part1 f o C k) (o + 16) (encAt (C.settle k) 16)) o C k j)) (fun i _ => 8 - (intOf i).toNat)
          case atStart => exact ⟨0, by omega, rfl, unhide HK2, (unhide HB2).ext fun i _ => by unfold part2; rw [if_neg (by omega)]⟩
          case round =>
            clear HB2 HK2 HR
            obtain ⟨j, hj, rfl, hkv, hbv⟩ := hrel
            by_cases hlj : j < 8
            · have hix : ∀ W, Sem.run Try.prog (Instr.index 78 (.agg #[.int .i64 (C.l.f 0 : Nat), .int .i64 (C.l.f 1 : Nat), .int .i64 (C.l.f 2 : Nat), .int .i64 (C.l.f 3 : Nat), .int .i64 (C.l.f 4 : Nat), .int .i64 (C.l.f 5 : Nat), .int .i64 (C.l.f 6 : Nat), .int .i64 (C.l.f 7 : Nat)]) (.int .i64 (j : Int))) W = .ok (.int .i64 (C.l.f j : Nat)) W :=
                fun W => run_index_int W (tab 8 fun j => .int .i64 (C.l.f j : Nat)) .i64 j hlj _ (tab_get _ _ _ hlj)
              have hfj := hok.2.2 j
              have d2 : wr.cell? ⟨c, o + 17 + j, none⟩ = some (part2 (upd (part1 f o C k) (o + 16) (encAt (C.settle k) 16)) o C k j (o + 17 + j)) := hbv.cell _ (by omega)
              have d3 : wr.frozen? ⟨c, o + 17 + j, none⟩ = false := hbv.free _
              generalize part2 (upd (part1 f o C k) (o + 16) (encAt (C.settle k) 16)) o C k j (o + 17 + j) = old at *
              obtain ⟨x, hx⟩ : ∃ x, x = C.l.f j := ⟨_, rfl⟩
              simp only [← hx] at hfj hix
              have HX := hide hx
              clear hx
              have HBV := hide hbv
              have HKV := hide hkv
              clear hbv hkv
              by_cases hxk : k ≤ x
              · have hmx : (0 : Int) ≤ (x : Int) - (k : Int) := by omega
                have HV : Hid ((x : Int) - (k : Int) = ((C.l.f j - k : Nat) : Int)) := by show _ = _; rw [← unhide HX]; omega
                go_wp2
                go_roundw
                case rel => exact ⟨j + 1, by omega, by go_num, Keeps.setCell (unhide HKV) (by rfl) _, part2_next (unhide HBV) hlj (unhide HV)⟩
                case measure => simp [intOf]; omega
              · have hmx : ((x : Int) - (k : Int)) < 0 := by omega
                have HV : Hid ((0 : Int) = ((C.l.f j - k : Nat) : Int)) := by show _ = _; rw [← unhide HX]; omega
                go_wp2
                go_roundw
                case rel => exact ⟨j + 1, by omega, by go_num, Keeps.setCell (unhide HKV) (by rfl) _, part2_next (unhide HBV) hlj (unhide HV)⟩
                case measure => simp [intOf]; omega
            · obtain rfl : j = 8 := by omega
              have HBV := hide (part_all hf hbv)
              have HKV := hide hkv
              clear hbv hkv
              go_wp2
              go_end0
              exact ⟨rfl, unhide HBV, unhide HKV⟩

end Go.Proofs.Ytjidekjeibdbgaa
