import Derived.Test.YtiafhcgaikapcaaGreatProg
import Derived.Test.YtiafhcgaikapcaaGreatChecked
import Derived.Test.YtiafhcgaikapcaaGreatNRep
import Derived.Deep.QuietTactic
import Derived.BigQuiet
import Derived.BigRegion
import Derived.Deep.Cut
import Derived.Deep.RegionHeld3
import Derived.Deep.RegionLawGrows
import Derived.Laws.ResultCell
import Derived.Test.YtiafhcgaikapcaaGreatEqual
import Derived.Deep.Slices

/-
  What (*cell).settle does: the first n stores of a line are sure; nothing else turns.
-/
namespace Go.Proofs.YtiafhcgaikapcaaGreat
open Go.ChangeShapes Go.WideShapes Go.ChangeAt Go.RowKit Go.Joins
set_option linter.unusedVariables false

def Cel.settle (C : Cel) (n : Nat) : Cel := ⟨C.l.settle n, if C.cap = n then C.ad else C.ad.map fun p => (p.1, p.2 + n * 2), C.cap - n⟩
theorem Cel.settle_zero (C : Cel) : C.settle 0 = C := by
  cases C with | mk l ad cap =>
  unfold Cel.settle
  simp only [Ln.settle_zero, Nat.zero_mul, Nat.add_zero, Nat.sub_zero]
  split <;> simp

/-- The lines behind k stores made sure, of a line that lies at o. -/
def part1 (f : Nat → Value) (o : Nat) (C : Cel) (k : Nat) : Nat → Value := fun i => if o ≤ i ∧ i < o + 8 then .int .u64 (runS (C.l.t.take k) C.l.s (i - o)) else f i

/-- An element of an array of integers, by value. -/
theorem run_index_int (W : World) (cs : Array Value) (k : IntKind) (i : Nat) (h8 : i < 8) (v : Value) (h : cs[i]? = some v) :
    Sem.run Tryz.prog (Instr.index 44 (.agg cs) (.int k (i : Int))) W = .ok v W := by
  have h8' : (0 : Int) ≤ (i : Int) ∧ (i : Int) < 8 := by omega
  simp [Instr.index, run_underlying Tryz.underlying44, asIntOf, h8, go_sem, part, h]

def part2 (f : Nat → Value) (o : Nat) (C : Cel) (n j : Nat) : Nat → Value := fun i => if o + 17 ≤ i ∧ i < o + 17 + j then .int .i64 ((C.l.f (i - (o + 17)) - n : Nat) : Int) else f i

theorem part2_next {w : World} {c N o n j : Nat} {T : TypeId} {f : Nat → Value} {C : Cel} (h : Blk w c N T (part2 f o C n j)) (hj : j < 8) {z : Int} (hz : z = ((C.l.f j - n : Nat) : Int)) :
    Blk (w.setCell ⟨c, o + 17 + j, none⟩ (.int .i64 z)) c N T (part2 f o C n (j + 1)) := by
  refine (h.set _ _).ext fun i _ => ?_
  unfold part2
  by_cases hi : i = o + 17 + j
  · subst hi; rw [upd_same, if_pos (by omega), show o + 17 + j - (o + 17) = j by omega, hz]
  · rw [upd_other _ _ _ _ hi]
    by_cases h2 : o + 17 ≤ i ∧ i < o + 17 + j
    · rw [if_pos h2, if_pos (by omega)]
    · rw [if_neg h2, if_neg (by omega)]

theorem part_all {w : World} {c N o n : Nat} {T : TypeId} {f : Nat → Value} {C : Cel} (hf : ∀ j, j < 25 → f (o + j) = encAt C j) (h : Blk w c N T (part2 (upd (part1 f o C n) (o + 16) (encAt (C.settle n) 16)) o C n 8)) :
    Blk w c N T (putC f o (C.settle n)) := by
  refine h.ext fun i _ => ?_
  unfold putC
  by_cases h1 : o ≤ i ∧ i < o + 25
  · rw [if_pos h1]
    unfold part2
    by_cases h2 : o + 17 ≤ i ∧ i < o + 17 + 8
    · rw [if_pos h2]
      simp [encAt, Cel.settle, Ln.settle, show ¬ (i - o < 8) by omega, show ¬ (i - o < 16) by omega, show ¬ (i - o = 16) by omega, show i - o - 17 = i - (o + 17) by omega]
    · rw [if_neg h2]
      by_cases h3 : i = o + 16
      · subst h3; rw [upd_same, show o + 16 - o = 16 by omega]
      · rw [upd_other _ _ _ _ h3]
        unfold part1
        by_cases h4 : o ≤ i ∧ i < o + 8
        · rw [if_pos h4]; simp [encAt, Cel.settle, Ln.settle, show i - o < 8 by omega]
        · rw [if_neg h4]
          have := hf (i - o) (by omega)
          rw [show o + (i - o) = i by omega] at this
          rw [this]
          have hh : (C.settle n).l.has = C.l.has := Ln.settle_has _ _
          simp [encAt, hh, show ¬ (i - o < 8) by omega, show i - o < 16 by omega]
  · rw [if_neg h1]
    unfold part2
    rw [if_neg (by omega), upd_other _ _ _ _ (by omega)]
    unfold part1
    rw [if_neg (by omega)]

set_option maxRecDepth 100000 in
theorem settle_any (C : Cel) (hok : C.l.ok) (n : Nat) (hn : n ≤ C.l.t.length) (hlen : C.l.t.length ≤ 1099511627776) (c o N : Nat) (f : Nat → Value) (w : World) (ho : o + 25 ≤ N) (hb : Blk w c N 170 f)
    (hf : ∀ j, j < 25 → f (o + j) = encAt C j) (hrow : Row 174 w C) (hcb : C.blk ≠ some c) :
    Calls Tryz.prog 98 #[.pointer (some ⟨c, o, none⟩), .int .i64 n] w fun e w' => e = .returned (.tuple #[]) ∧ Blk w' c N 170 (putC f o (C.settle n)) ∧ Keeps (· = c) w w' := by
  have hput : putC f o C = f := by
    funext i
    unfold putC
    by_cases h : o ≤ i ∧ i < o + 25
    · rw [if_pos h, ← hf (i - o) (by omega), show o + (i - o) = i by omega]
    · rw [if_neg h]
  by_cases h0 : n = 0
  · subst h0
    go_enter Tryz.func98, Tryz.ntmps98
    go_wp2
    refine bodyPost_ret (results_none rfl _ _ _) rfl ?_
    rw [Cel.settle_zero, hput]
    exact ⟨rfl, hb, Keeps.refl _ _⟩
  · rcases hrow with ⟨_, _, h⟩ | ⟨g, off, cur, had, hg, hsz, hlc, hcm, hcur⟩
    · rw [h] at hn; simp at hn; omega
    have hgc : g ≠ c := fun e => hcb (by rw [← e]; simp [Cel.blk, had])
    have hhead : w.cell? ⟨c, o + 16, none⟩ = some (.slice (some ⟨g, off, none⟩) C.l.t.length C.cap) := by
      rw [hb.cell _ (by omega), hf 16 (by omega)]; simp [encAt, had, slot]
    have h0' : ((n : Int) == 0) = false := by simp; omega
    have hn1 : (n : Int) ≤ (C.cap : Int) := by omega
    go_enter Tryz.func98, Tryz.ntmps98
    go_wp2
    go_loopw [17] (fun i wr => ∃ k : Nat, k ≤ n ∧ i = .int .i64 k ∧ Keeps (· = c) w wr ∧ Blk wr c N 170 (part1 f o C k)) (fun i _ => n - (intOf i).toNat)
    case atStart =>
      refine ⟨0, by omega, rfl, Keeps.refl _ _, hb.ext fun i _ => ?_⟩
      unfold part1
      by_cases h : o ≤ i ∧ i < o + 8
      · rw [if_pos h, List.take_zero]
        have := hf (i - o) (by omega)
        rw [show o + (i - o) = i by omega] at this
        rw [this]
        simp [encAt, runS, show i - o < 8 by omega]
      · rw [if_neg h]
    case round =>
      obtain ⟨k, hk, rfl, hkp, hbr⟩ := hrel
      by_cases hlt : k < n
      · have hgr : wr.heap[g]? = some (.cells cur 174 (0, 0)) := by
          rw [hkp.block g (lt_of_block hg) hgc]; exact hg
        obtain ⟨e0, e1⟩ := hcur k (by omega)
        obtain ⟨p1, p2⟩ := hok.2.1 (C.l.t[k]) (by simp)
        have hset := runS_take C.l.t k (by omega) C.l.s
        obtain ⟨q, hq⟩ : ∃ q, q = (C.l.t[k]).1 := ⟨_, rfl⟩
        obtain ⟨z, hz⟩ : ∃ z, z = (C.l.t[k]).2 := ⟨_, rfl⟩
        rw [← hq] at e0 hset p1
        rw [← hz] at e1 hset p2
        have HS := hide hset
        clear hset hq hz
        have c0 : wr.cell? ⟨g, off + k * 2, none⟩ = some (.int .i64 q) := by rw [cell_of_block hgr]; exact e0
        have c1 : wr.cell? ⟨g, off + k * 2 + 1, none⟩ = some (.int .u64 z) := by rw [cell_of_block hgr]; exact e1
        have c2 : wr.cell? ⟨c, o + q, none⟩ = some (part1 f o C k (o + q)) := hbr.cell _ (by omega)
        have c3 : wr.frozen? ⟨c, o + q, none⟩ = false := hbr.free _
        have hcl := hbr.lt
        have q0 : (0 : Int) ≤ (q : Int) := by omega
        have q8 : (q : Int) < 8 := by omega
        generalize part1 f o C k (o + q) = old at *
        have HB := hide hbr
        have HK := hide hkp
        clear hbr hkp e0 e1 hgr hhead
        go_wp2
        go_region
        go_wp2
        go_roundw
        case rel =>
          refine ⟨k + 1, by omega, by go_num, ?_, ?_⟩
          · exact ((Keeps.setCell (unhide HK) (by rfl) _).alloc _).drew
          · refine (((unhide HB).set (o + q) (.int .u64 z)).alloc _).drew.ext fun i _ => ?_
            unfold part1
            rw [unhide HS]
            by_cases hi : i = o + q
            · subst hi; rw [upd_same, if_pos (by omega), show o + q - o = q by omega, upd_same]
            · rw [upd_other _ _ _ _ hi]
              by_cases h : o ≤ i ∧ i < o + 8
              · rw [if_pos h, if_pos h, upd_other _ _ _ _ (by omega)]
              · rw [if_neg h, if_neg h]
        case measure => simp [intOf]; omega
      · obtain rfl : k = n := by omega
        have hh : wr.cell? ⟨c, o + 16, none⟩ = some (.slice (some ⟨g, off, none⟩) C.l.t.length C.cap) := by
          rw [hbr.cell _ (by omega)]; unfold part1; rw [if_neg (by omega), hf 16 (by omega)]; simp [encAt, had, slot]
        have h1 : wr.frozen? ⟨c, o + 16, none⟩ = false := hbr.free _
        have hkl : (k : Int) ≤ (C.l.t.length : Int) := by omega
        have HB := hide hbr
        have HK := hide hkp
        clear hbr hkp hhead
        have s8 : (Tryz.prog.info? 44).map (·.size) = some ((List.range 8).map fun j => Value.int .i64 (C.l.f j)).length := by
          rw [List.length_map, List.length_range]; kernel_rfl
        have HE : Hid (encAt (C.settle k) 16 = .slice (slot (C.settle k).ad) (C.l.t.length - k) (C.cap - k)) := by show _ = _; simp [encAt, Cel.settle, Ln.settle]
        by_cases hck : C.cap = k
        · have HD : Hid (slot (C.settle k).ad = some ⟨g, off, none⟩) := by show _ = _; simp [Cel.settle, hck, had, slot]
          have HZ : Hid (C.cap - k = 0) := by show _ = _; omega
          go_upto_region 7 with fail
          have HB2 : Hid (Blk (wr.setCell ⟨c, o + 16, none⟩ (.slice (some ⟨g, off, none⟩) (C.l.t.length - k) 0)) c N 170 (upd (part1 f o C k) (o + 16) (encAt (C.settle k) 16))) := by
            rw [unhide HE, unhide HD, unhide HZ]; exact (unhide HB).set _ _
          have HK2 : Hid (Keeps (· = c) w (wr.setCell ⟨c, o + 16, none⟩ (.slice (some ⟨g, off, none⟩) (C.l.t.length - k) 0))) := Keeps.setCell (unhide HK) (by rfl) _
          generalize wr.setCell ⟨c, o + 16, none⟩ (.slice (some ⟨g, off, none⟩) (C.l.t.length - k) 0) = V at *
          have hR : V.rangeAt c (o + 17) ((List.range 8).map fun j => .int .i64 (C.l.f j)) := (unhide HB2).range (o + 17) 8 (by omega) _ (fun j hj => by
            rw [upd_other _ _ _ _ (by omega)]
            unfold part1; rw [if_neg (by omega), show o + 17 + j = o + (17 + j) by omega, hf (17 + j) (by omega)]
            simp [encAt, show ¬ (17 + j < 8) by omega, show ¬ (17 + j < 16) by omega, show ¬ (17 + j = 16) by omega])
          have HR := hide hR
          clear hR HB HK hh h1 HD HE wr
          go_wp2_with (refine wpList_load_mid rfl 44 _ rfl c (o + 17) rfl _ _ (unhide HR) Tryz.underlying44 rfl s8 ?_)
          go_loopw [43] (fun i wv => ∃ j : Nat, j ≤ 8 ∧ i = .int .i64 j ∧ Keeps (· = c) w wv ∧ Blk wv c N 170 (part2 (upd (part1 f o C k) (o + 16) (encAt (C.settle k) 16)) o C k j)) (fun i _ => 8 - (intOf i).toNat)
          case atStart => exact ⟨0, by omega, rfl, unhide HK2, (unhide HB2).ext fun i _ => by unfold part2; rw [if_neg (by omega)]⟩
          case round =>
            clear HB2 HK2 HR
            obtain ⟨j, hj, rfl, hkv, hbv⟩ := hrel
            by_cases hlj : j < 8
            · have hix : ∀ W, Sem.run Tryz.prog (Instr.index 44 (.agg #[.int .i64 (C.l.f 0 : Nat), .int .i64 (C.l.f 1 : Nat), .int .i64 (C.l.f 2 : Nat), .int .i64 (C.l.f 3 : Nat), .int .i64 (C.l.f 4 : Nat), .int .i64 (C.l.f 5 : Nat), .int .i64 (C.l.f 6 : Nat), .int .i64 (C.l.f 7 : Nat)]) (.int .i64 (j : Int))) W = .ok (.int .i64 (C.l.f j : Nat)) W :=
                fun W => run_index_int W (tab 8 fun j => .int .i64 (C.l.f j : Nat)) .i64 j hlj _ (tab_get _ _ _ hlj)
              have hfj := hok.2.2 j
              have d2 : wr.cell? ⟨c, o + 17 + j, none⟩ = some (part2 (upd (part1 f o C k) (o + 16) (encAt (C.settle k) 16)) o C k j (o + 17 + j)) := hbv.cell _ (by omega)
              have d3 : wr.frozen? ⟨c, o + 17 + j, none⟩ = false := hbv.free _
              generalize part2 (upd (part1 f o C k) (o + 16) (encAt (C.settle k) 16)) o C k j (o + 17 + j) = old at *
              obtain ⟨x, hx⟩ : ∃ x, x = C.l.f j := ⟨_, rfl⟩
              simp only [← hx] at hfj hix
              have HX := hide hx
              clear hx
              have HBV := hide hbv
              have HKV := hide hkv
              clear hbv hkv
              by_cases hxk : k ≤ x
              · have hmx : (0 : Int) ≤ (x : Int) - (k : Int) := by omega
                have HV : Hid ((x : Int) - (k : Int) = ((C.l.f j - k : Nat) : Int)) := by show _ = _; rw [← unhide HX]; omega
                go_wp2
                go_roundw
                case rel => exact ⟨j + 1, by omega, by go_num, Keeps.setCell (unhide HKV) (by rfl) _, part2_next (unhide HBV) hlj (unhide HV)⟩
                case measure => simp [intOf]; omega
              · have hmx : ((x : Int) - (k : Int)) < 0 := by omega
                have HV : Hid ((0 : Int) = ((C.l.f j - k : Nat) : Int)) := by show _ = _; rw [← unhide HX]; omega
                go_wp2
                go_roundw
                case rel => exact ⟨j + 1, by omega, by go_num, Keeps.setCell (unhide HKV) (by rfl) _, part2_next (unhide HBV) hlj (unhide HV)⟩
                case measure => simp [intOf]; omega
            · obtain rfl : j = 8 := by omega
              have HBV := hide (part_all hf hbv)
              have HKV := hide hkv
              clear hbv hkv
              go_wp2
              go_end0
              exact ⟨rfl, unhide HBV, unhide HKV⟩
        · have HD : Hid (slot (C.settle k).ad = some ⟨g, off + k * 2, none⟩) := by show _ = _; simp [Cel.settle, hck, had, slot]
          go_upto_region 7 with fail
          have HB2 : Hid (Blk (wr.setCell ⟨c, o + 16, none⟩ (.slice (some ⟨g, off + k * 2, none⟩) (C.l.t.length - k) (C.cap - k))) c N 170 (upd (part1 f o C k) (o + 16) (encAt (C.settle k) 16))) := by
            rw [unhide HE, unhide HD]; exact (unhide HB).set _ _
          have HK2 : Hid (Keeps (· = c) w (wr.setCell ⟨c, o + 16, none⟩ (.slice (some ⟨g, off + k * 2, none⟩) (C.l.t.length - k) (C.cap - k)))) := Keeps.setCell (unhide HK) (by rfl) _
          generalize wr.setCell ⟨c, o + 16, none⟩ (.slice (some ⟨g, off + k * 2, none⟩) (C.l.t.length - k) (C.cap - k)) = V at *
          have hR : V.rangeAt c (o + 17) ((List.range 8).map fun j => .int .i64 (C.l.f j)) := (unhide HB2).range (o + 17) 8 (by omega) _ (fun j hj => by
            rw [upd_other _ _ _ _ (by omega)]
            unfold part1; rw [if_neg (by omega), show o + 17 + j = o + (17 + j) by omega, hf (17 + j) (by omega)]
            simp [encAt, show ¬ (17 + j < 8) by omega, show ¬ (17 + j < 16) by omega, show ¬ (17 + j = 16) by omega])
          have HR := hide hR
          clear hR HB HK hh h1 HD HE wr
          go_wp2_with (refine wpList_load_mid rfl 44 _ rfl c (o + 17) rfl _ _ (unhide HR) Tryz.underlying44 rfl s8 ?_)
          go_loopw [43] (fun i wv => ∃ j : Nat, j ≤ 8 ∧ i = .int .i64 j ∧ Keeps (· = c) w wv ∧ Blk wv c N 170 (part2 (upd (part1 f o C k) (o + 16) (encAt (C.settle k) 16)) o C k j)) (fun i _ => 8 - (intOf i).toNat)
          case atStart => exact ⟨0, by omega, rfl, unhide HK2, (unhide HB2).ext fun i _ => by unfold part2; rw [if_neg (by omega)]⟩
          case round =>
            clear HB2 HK2 HR
            obtain ⟨j, hj, rfl, hkv, hbv⟩ := hrel
            by_cases hlj : j < 8
            · have hix : ∀ W, Sem.run Tryz.prog (Instr.index 44 (.agg #[.int .i64 (C.l.f 0 : Nat), .int .i64 (C.l.f 1 : Nat), .int .i64 (C.l.f 2 : Nat), .int .i64 (C.l.f 3 : Nat), .int .i64 (C.l.f 4 : Nat), .int .i64 (C.l.f 5 : Nat), .int .i64 (C.l.f 6 : Nat), .int .i64 (C.l.f 7 : Nat)]) (.int .i64 (j : Int))) W = .ok (.int .i64 (C.l.f j : Nat)) W :=
                fun W => run_index_int W (tab 8 fun j => .int .i64 (C.l.f j : Nat)) .i64 j hlj _ (tab_get _ _ _ hlj)
              have hfj := hok.2.2 j
              have d2 : wr.cell? ⟨c, o + 17 + j, none⟩ = some (part2 (upd (part1 f o C k) (o + 16) (encAt (C.settle k) 16)) o C k j (o + 17 + j)) := hbv.cell _ (by omega)
              have d3 : wr.frozen? ⟨c, o + 17 + j, none⟩ = false := hbv.free _
              generalize part2 (upd (part1 f o C k) (o + 16) (encAt (C.settle k) 16)) o C k j (o + 17 + j) = old at *
              obtain ⟨x, hx⟩ : ∃ x, x = C.l.f j := ⟨_, rfl⟩
              simp only [← hx] at hfj hix
              have HX := hide hx
              clear hx
              have HBV := hide hbv
              have HKV := hide hkv
              clear hbv hkv
              by_cases hxk : k ≤ x
              · have hmx : (0 : Int) ≤ (x : Int) - (k : Int) := by omega
                have HV : Hid ((x : Int) - (k : Int) = ((C.l.f j - k : Nat) : Int)) := by show _ = _; rw [← unhide HX]; omega
                go_wp2
                go_roundw
                case rel => exact ⟨j + 1, by omega, by go_num, Keeps.setCell (unhide HKV) (by rfl) _, part2_next (unhide HBV) hlj (unhide HV)⟩
                case measure => simp [intOf]; omega
              · have hmx : ((x : Int) - (k : Int)) < 0 := by omega
                have HV : Hid ((0 : Int) = ((C.l.f j - k : Nat) : Int)) := by show _ = _; rw [← unhide HX]; omega
                go_wp2
                go_roundw
                case rel => exact ⟨j + 1, by omega, by go_num, Keeps.setCell (unhide HKV) (by rfl) _, part2_next (unhide HBV) hlj (unhide HV)⟩
                case measure => simp [intOf]; omega
            · obtain rfl : j = 8 := by omega
              have HBV := hide (part_all hf hbv)
              have HKV := hide hkv
              clear hbv hkv
              go_wp2
              go_end0
              exact ⟨rfl, unhide HBV, unhide HKV⟩

end Go.Proofs.YtiafhcgaikapcaaGreat


/-
  A memory of nvm in the program's memory, whole; what turns one line, or its head, leaves it one.
-/
namespace Go.Proofs.YtiafhcgaikapcaaGreat
open Go.ChangeShapes Go.WideShapes Go.ChangeAt Go.RowKit Go.Joins

def headOf (A : Mm) (c K : Nat) : Array Value := #[.slice (some ⟨c, 0, none⟩) A.n K, .bool A.on, .int .i64 A.fuse, .int .i64 (A.steps : Int)]
structure Rep (w : World) (F : Nat → Prop) (b : Nat) (A : Mm) (c : Nat) (cs : Nat → Cel) : Prop where
  hd : ∃ K, w.heap[b]? = some (.cells (headOf A c K) 138 (0, 0))
  bl : Blk w c (A.n * 25) 170 (encF cs)
  ln : ∀ i, (cs i).l = A.l i
  row : ∀ i, i < A.n → Row 174 w (cs i)
  bc : b ≠ c
  ap : ∀ i, i < A.n → ∀ g, (cs i).blk = some g → g ≠ b ∧ g ≠ c ∧ F g
  dj : ∀ i j, i < A.n → j < A.n → i ≠ j → ∀ g, (cs i).blk = some g → (cs j).blk ≠ some g
  fb : F b
  fc : F c
  lt : ∀ k, F k → k < w.heap.size
/-- Behind a call: it returned v; the memory at b is A', what it is not made of is as it was. -/
def Went (F : Nat → Prop) (w : World) (b c : Nat) (A' : Mm) (v : Value) (e : Ending) (w' : World) : Prop :=
  e = .returned v ∧ ∃ F' cs', Rep w' F' b A' c cs' ∧ Keeps F w w' ∧ Grew F w F'
def Is (w : World) (F : Nat → Prop) (b : Nat) (A : Mm) : Prop := ∃ c cs, Rep w F b A c cs

/-- Behind what turns no block of it. -/
theorem Rep.keeps {w w' : World} {F G : Nat → Prop} {b c : Nat} {A : Mm} {cs : Nat → Cel} (h : Rep w F b A c cs) (hK : Keeps G w w') (hG : ∀ x, F x → ¬ G x) : Rep w' F b A c cs :=
  ⟨by rw [hK.block b (h.lt b h.fb) (hG b h.fb)]; exact h.hd, h.bl.keeps hK (hG c h.fc), h.ln, fun i hi => (h.row i hi).keeps hK fun g hg => hG g (h.ap i hi g hg).2.2, h.bc, h.ap, h.dj, h.fb, h.fc, fun k hk => Nat.lt_of_lt_of_le (h.lt k hk) hK.size⟩
theorem Rep.alloc {w : World} {F : Nat → Prop} {b c : Nat} {A : Mm} {cs : Nat → Cel} (h : Rep w F b A c cs) (o : Obj) : Rep (w.alloc o) F b A c cs :=
  h.keeps (G := fun _ => False) ((Keeps.refl _ _).alloc _) fun _ _ => id
theorem Rep.drew {w : World} {F : Nat → Prop} {b c : Nat} {A : Mm} {cs : Nat → Cel} (h : Rep w F b A c cs) : Rep w.drew F b A c cs :=
  h.keeps (G := fun _ => False) (Keeps.refl _ _).drew fun _ _ => id
theorem Rep.more {w : World} {F G : Nat → Prop} {b c : Nat} {A : Mm} {cs : Nat → Cel} (h : Rep w F b A c cs) (hFG : ∀ k, F k → G k) (hlt : ∀ k, G k → k < w.heap.size) : Rep w G b A c cs :=
  ⟨h.hd, h.bl, h.ln, h.row, h.bc, fun i hi g hg => ⟨(h.ap i hi g hg).1, (h.ap i hi g hg).2.1, hFG g (h.ap i hi g hg).2.2⟩, h.dj, hFG b h.fb, hFG c h.fc, hlt⟩

theorem Row.lt {T : TypeId} {w : World} {C : Cel} (h : Row T w C) : ∀ g, C.blk = some g → g < w.heap.size := fun g hg => by
  rcases h with ⟨h, _⟩ | ⟨g', off, cur, h1, h2, _⟩
  · simp [Cel.blk, h] at hg
  · simp [Cel.blk, h1] at hg
    subst hg
    exact lt_of_block h2

/-- One line is another one, its stores where they were or in a new block. -/
theorem Rep.line {w w' : World} {F G : Nat → Prop} {b c : Nat} {A : Mm} {cs : Nat → Cel} (h : Rep w F b A c cs) (k : Nat) (hk : k < A.n) (C' : Cel) (hK : Keeps G w w') (hG : ∀ x, G x → x = c ∨ (cs k).blk = some x)
    (hbl : Blk w' c (A.n * 25) 170 (putC (encF cs) (k * 25) C')) (hrow : Row 174 w' C') (hblk : ∀ g, C'.blk = some g → (cs k).blk = some g ∨ w.heap.size ≤ g) :
    Rep w' (fun x => F x ∨ C'.blk = some x) b ⟨A.n, upd A.l k C'.l, A.on, A.fuse, A.steps⟩ c (upd cs k C') := by
  have hGb : ¬ G b := fun hg => (hG b hg).elim h.bc (fun e => (h.ap k hk b e).1 rfl)
  have hb := h.lt b h.fb
  have hc := h.lt c h.fc
  refine ⟨?_, ?_, ?_, ?_, h.bc, ?_, ?_, Or.inl h.fb, Or.inl h.fc, ?_⟩
  · rw [hK.block b hb hGb]; exact h.hd
  · rw [← putC_encF]; exact hbl
  · intro i
    show (upd cs k C' i).l = upd A.l k C'.l i
    by_cases hi : i = k
    · subst hi; rw [upd_same, upd_same]
    · rw [upd_other _ _ _ _ hi, upd_other _ _ _ _ hi]; exact h.ln i
  · intro i hi
    by_cases hik : i = k
    · subst hik; rw [upd_same]; exact hrow
    · rw [upd_other _ _ _ _ hik]
      exact (h.row i hi).keeps hK fun g hg hGg => (hG g hGg).elim (h.ap i hi g hg).2.1 (h.dj i k hi hk hik g hg)
  · intro i hi g hg
    by_cases hik : i = k
    · subst hik
      rw [upd_same] at hg
      rcases hblk g hg with h' | h'
      · exact ⟨(h.ap i hi g h').1, (h.ap i hi g h').2.1, Or.inr hg⟩
      · exact ⟨by omega, by omega, Or.inr hg⟩
    · rw [upd_other _ _ _ _ hik] at hg
      exact ⟨(h.ap i hi g hg).1, (h.ap i hi g hg).2.1, Or.inl (h.ap i hi g hg).2.2⟩
  · intro i j hi hj hij g hg hg'
    by_cases hik : i = k
    · subst hik
      rw [upd_same] at hg
      rw [upd_other _ _ _ _ (Ne.symm hij)] at hg'
      rcases hblk g hg with h' | h'
      · exact h.dj i j hi hj hij g h' hg'
      · have := h.lt g (h.ap j hj g hg').2.2; omega
    · rw [upd_other _ _ _ _ hik] at hg
      by_cases hjk : j = k
      · subst hjk
        rw [upd_same] at hg'
        rcases hblk g hg' with h' | h'
        · exact h.dj i j hi hj hij g hg h'
        · have := h.lt g (h.ap i hi g hg).2.2; omega
      · rw [upd_other _ _ _ _ hjk] at hg'
        exact h.dj i j hi hj hij g hg hg'
  · intro x hx
    rcases hx with hx | hx
    · exact Nat.lt_of_lt_of_le (h.lt x hx) hK.size
    · exact hrow.lt x hx

/-- Its head is another one. -/
theorem Rep.head {w w' : World} {F : Nat → Prop} {b c : Nat} {A : Mm} {cs : Nat → Cel} (h : Rep w F b A c cs) (hK : Keeps (· = b) w w') (on : Bool) (fuse : Int) (steps : Nat)
    (hd : ∃ K, w'.heap[b]? = some (.cells (headOf ⟨A.n, A.l, on, fuse, steps⟩ c K) 138 (0, 0))) : Rep w' F b ⟨A.n, A.l, on, fuse, steps⟩ c cs :=
  ⟨hd, h.bl.keeps hK (Ne.symm h.bc), h.ln, fun i hi => (h.row i hi).keeps hK fun g hg => (h.ap i hi g hg).1, h.bc, h.ap, h.dj, h.fb, h.fc, fun k hk => Nat.lt_of_lt_of_le (h.lt k hk) hK.size⟩

theorem Row.settle {T : TypeId} {w : World} {C : Cel} (h : Row T w C) (n : Nat) (hn : n ≤ C.l.t.length) : Row T w (C.settle n) := by
  rcases h with ⟨h1, h2, h3⟩ | ⟨g, off, cur, h1, h2, h3, h4, h5, h6⟩
  · rw [h3] at hn
    obtain rfl : n = 0 := by simpa using hn
    rw [Cel.settle_zero]; exact Or.inl ⟨h1, h2, h3⟩
  · have hlen : (C.settle n).l.t.length = C.l.t.length - n := by simp [Cel.settle, Ln.settle]
    by_cases hc : C.cap = n
    · refine Or.inr ⟨g, off, cur, by simp [Cel.settle, hc, h1], h2, by simp [Cel.settle, hc]; omega, by rw [hlen]; simp [Cel.settle]; omega, by simp [Cel.settle]; omega, fun j hj => ?_⟩
      rw [hlen] at hj; omega
    · refine Or.inr ⟨g, off + n * 2, cur, by simp [Cel.settle, hc, h1], h2, by simp [Cel.settle]; omega, by rw [hlen]; simp [Cel.settle]; omega, by simp [Cel.settle]; omega, fun j hj => ?_⟩
      have hj' : n + j < C.l.t.length := by rw [hlen] at hj; omega
      have := h6 (n + j) hj'
      rw [show off + n * 2 + j * 2 = off + (n + j) * 2 by omega]
      simpa [Cel.settle, Ln.settle] using this
theorem Cel.settle_blk (C : Cel) (n : Nat) : (C.settle n).blk = C.blk := by
  unfold Cel.settle Cel.blk
  simp only
  split
  · rfl
  · cases C.ad <;> rfl

/-! ### What the walk reads of its head -/
theorem Rep.c0 {w : World} {F : Nat → Prop} {b c : Nat} {A : Mm} {cs : Nat → Cel} (h : Rep w F b A c cs) : ∃ K, w.cell? ⟨b, 0, none⟩ = some (.slice (some ⟨c, 0, none⟩) A.n K) := by obtain ⟨K, hd⟩ := h.hd; exact ⟨K, by rw [cell_of_block hd]; rfl⟩
theorem Rep.c1 {w : World} {F : Nat → Prop} {b c : Nat} {A : Mm} {cs : Nat → Cel} (h : Rep w F b A c cs) : w.cell? ⟨b, 1, none⟩ = some (.bool A.on) := by obtain ⟨K, hd⟩ := h.hd; rw [cell_of_block hd]; rfl
theorem Rep.c2 {w : World} {F : Nat → Prop} {b c : Nat} {A : Mm} {cs : Nat → Cel} (h : Rep w F b A c cs) : w.cell? ⟨b, 2, none⟩ = some (.int .i64 A.fuse) := by obtain ⟨K, hd⟩ := h.hd; rw [cell_of_block hd]; rfl
theorem Rep.c3 {w : World} {F : Nat → Prop} {b c : Nat} {A : Mm} {cs : Nat → Cel} (h : Rep w F b A c cs) : w.cell? ⟨b, 3, none⟩ = some (.int .i64 (A.steps : Int)) := by obtain ⟨K, hd⟩ := h.hd; rw [cell_of_block hd]; rfl
theorem Rep.fr {w : World} {F : Nat → Prop} {b c : Nat} {A : Mm} {cs : Nat → Cel} (h : Rep w F b A c cs) (i : Nat) : w.frozen? ⟨b, i, none⟩ = false := by obtain ⟨K, hd⟩ := h.hd; exact unfrozen_of_block hd i
theorem Rep.cel {w : World} {F : Nat → Prop} {b c : Nat} {A : Mm} {cs : Nat → Cel} (h : Rep w F b A c cs) (k : Nat) (hk : k < A.n) (j : Nat) (hj : j < 25) : w.cell? ⟨c, k * 25 + j, none⟩ = some (encAt (cs k) j) := by
  rw [h.bl.cell _ (by omega), encF_at _ _ _ hj]
theorem Rep.lenc {w : World} {F : Nat → Prop} {b c : Nat} {A : Mm} {cs : Nat → Cel} (h : Rep w F b A c cs) (k : Nat) (hk : k < A.n) : w.cell? ⟨c, k * 25 + 16, none⟩ = some (.slice (slot (cs k).ad) (A.l k).t.length (cs k).cap) := by
  rw [h.cel k hk 16 (by omega), ← h.ln k]; rfl
theorem Rep.hasR {w : World} {F : Nat → Prop} {b c : Nat} {A : Mm} {cs : Nat → Cel} (h : Rep w F b A c cs) (k : Nat) (hk : k < A.n) : w.rangeAt c (k * 25 + 8) ((List.range 8).map fun j => .int .u64 ((A.l k).has j)) :=
  h.bl.range _ 8 (by omega) _ fun j hj => by
    rw [Nat.add_assoc, encF_at _ _ _ (by omega), ← h.ln k]
    simp [encAt, show ¬ (8 + j < 8) by omega, show 8 + j < 16 by omega]
theorem Rep.sureR {w : World} {F : Nat → Prop} {b c : Nat} {A : Mm} {cs : Nat → Cel} (h : Rep w F b A c cs) (k : Nat) (hk : k < A.n) : w.rangeAt c (k * 25) ((List.range 8).map fun j => .int .u64 ((A.l k).s j)) :=
  h.bl.range _ 8 (by omega) _ fun j hj => by
    rw [encF_at _ _ _ (by omega), ← h.ln k]
    simp [encAt, hj]

end Go.Proofs.YtiafhcgaikapcaaGreat


/-
  What nvm's small functions return: isSize, isWord, isCore, isLine, kept; Fuse, On, Lines, Steps; and the statements' kind.
-/
namespace Go.Proofs.YtiafhcgaikapcaaGreat
open Go.ChangeShapes Go.WideShapes Go.ChangeAt Go.RowKit Go.Joins
set_option linter.unusedVariables false

theorem tmod_neg (z : Int) (hz : z < 0) (n : Int) (hn : 0 < n) : -((z + 1).tmod n) = (((-(z + 1)) % n).toNat : Int) := by
  rw [← Int.neg_tmod, Int.tmod_eq_emod_of_nonneg (by omega)]
  have := Int.emod_nonneg (-(z + 1)) (show n ≠ 0 by omega)
  omega
theorem tmod_pos (z : Int) (hz : 0 ≤ z) (n : Int) (hn : 0 < n) : z.tmod n = ((z % n).toNat : Int) := by
  rw [Int.tmod_eq_emod_of_nonneg hz]
  have := Int.emod_nonneg z (show n ≠ 0 by omega)
  omega
theorem emod_toNat (z : Int) (n : Int) (hn : 0 < n) : z % n = ((z % n).toNat : Int) := by
  have := Int.emod_nonneg z (show n ≠ 0 by omega)
  omega
def In64 (z : Int) : Prop := -9223372036854775808 ≤ z ∧ z ≤ 9223372036854775807
theorem nret_int {k : IntKind} {a b : Int} (h : a = b) : Ending.returned (.int k a) = .returned (.int k b) := by rw [h]
theorem nret_bool {a b : Bool} (h : a = b) : Ending.returned (.bool a) = .returned (.bool b) := by rw [h]

theorem isWord_any (z : Int) (w : World) : Calls Tryz.prog 133 #[.int .i64 z] w fun e w' => e = .returned (.bool (decide (0 ≤ z ∧ z < 8))) ∧ w' = w := by
  go_enter Tryz.func133, Tryz.ntmps133
  go_wp2
  all_goals go_ret
  all_goals refine ⟨nret_bool ?_, rfl⟩
  all_goals first | (refine decide_eq_decide.2 ?_; omega) | (symm; rw [decide_eq_false_iff_not]; omega) | (symm; rw [decide_eq_true_iff]; omega) | (simp; omega)
theorem isCore_any (z : Int) (w : World) : Calls Tryz.prog 177 #[.int .i64 z] w fun e w' => e = .returned (.bool (decide (0 ≤ z ∧ z < 8))) ∧ w' = w := by
  go_enter Tryz.func177, Tryz.ntmps177
  go_wp2
  all_goals go_ret
  all_goals refine ⟨nret_bool ?_, rfl⟩
  all_goals first | (refine decide_eq_decide.2 ?_; omega) | (symm; rw [decide_eq_false_iff_not]; omega) | (symm; rw [decide_eq_true_iff]; omega) | (simp; omega)
theorem isSize_any (z : Int) (w : World) : Calls Tryz.prog 104 #[.int .i64 z] w fun e w' => e = .returned (.bool (decide (64 ≤ z ∧ z ≤ 1024))) ∧ w' = w := by
  go_enter Tryz.func104, Tryz.ntmps104
  go_wp2
  all_goals go_ret
  all_goals refine ⟨nret_bool ?_, rfl⟩
  all_goals first | (refine decide_eq_decide.2 ?_; omega) | (symm; rw [decide_eq_false_iff_not]; omega) | (symm; rw [decide_eq_true_iff]; omega) | (simp; omega)
theorem isLine_any {w : World} {F : Nat → Prop} {b c : Nat} {A : Mm} {cs : Nat → Cel} (h : Rep w F b A c cs) (z : Int) :
    Calls Tryz.prog 103 #[.pointer (some ⟨b, 0, none⟩), .int .i64 z] w fun e w' => e = .returned (.bool (decide (0 ≤ z ∧ z < A.n))) ∧ w' = w := by
  obtain ⟨K0, c0⟩ := h.c0
  clear h
  go_enter Tryz.func103, Tryz.ntmps103
  go_wp2
  all_goals go_ret
  all_goals refine ⟨nret_bool ?_, rfl⟩
  all_goals first | (refine decide_eq_decide.2 ?_; omega) | (symm; rw [decide_eq_false_iff_not]; omega) | (symm; rw [decide_eq_true_iff]; omega) | (simp; omega)
theorem on_any {w : World} {F : Nat → Prop} {b c : Nat} {A : Mm} {cs : Nat → Cel} (h : Rep w F b A c cs) :
    Calls Tryz.prog 43 #[.pointer (some ⟨b, 0, none⟩)] w fun e w' => e = .returned (.bool A.on) ∧ w' = w := by
  have c1 := h.c1
  clear h
  go_enter Tryz.func43, Tryz.ntmps43
  go_wp2
  go_ret
  exact ⟨rfl, rfl⟩
theorem steps_any {w : World} {F : Nat → Prop} {b c : Nat} {A : Mm} {cs : Nat → Cel} (h : Rep w F b A c cs) :
    Calls Tryz.prog 38 #[.pointer (some ⟨b, 0, none⟩)] w fun e w' => e = .returned (.int .i64 (A.steps : Int)) ∧ w' = w := by
  have c3 := h.c3
  clear h
  go_enter Tryz.func38, Tryz.ntmps38
  go_wp2
  go_ret
  exact ⟨rfl, rfl⟩
theorem lines_any {w : World} {F : Nat → Prop} {b c : Nat} {A : Mm} {cs : Nat → Cel} (h : Rep w F b A c cs) :
    Calls Tryz.prog 106 #[.pointer (some ⟨b, 0, none⟩)] w fun e w' => e = .returned (.int .i64 (A.n : Int)) ∧ w' = w := by
  obtain ⟨K0, c0⟩ := h.c0
  clear h
  go_enter Tryz.func106, Tryz.ntmps106
  go_wp2
  go_ret
  exact ⟨rfl, rfl⟩
theorem head_set {w : World} {b c : Nat} {A : Mm} (hd : ∃ K, w.heap[b]? = some (.cells (headOf A c K) 138 (0, 0))) (i : Nat) (v : Value) (A' : Mm) (e : ∀ K, (headOf A c K).setIfInBounds i v = headOf A' c K) :
    ∃ K, (w.setCell ⟨b, i, none⟩ v).heap[b]? = some (.cells (headOf A' c K) 138 (0, 0)) := by obtain ⟨K, hd⟩ := hd; exact ⟨K, by rw [block_setCell hd, e]⟩
theorem fuse_any {w : World} {F : Nat → Prop} {b c : Nat} {A : Mm} {cs : Nat → Cel} (h : Rep w F b A c cs) (z : Int) :
    Calls Tryz.prog 18 #[.pointer (some ⟨b, 0, none⟩), .int .i64 z] w fun e w' => e = .returned (.tuple #[]) ∧ Rep w' F b (A.fused z) c cs ∧ Keeps F w w' := by
  have c2 := h.c2
  have f2 := h.fr 2
  have H := hide h
  clear h
  by_cases hz : z < -1
  · go_enter Tryz.func18, Tryz.ntmps18
    go_wp2
    go_end0
    refine ⟨rfl, ?_, Keeps.setCell (Keeps.refl _ _) (unhide H).fb _⟩
    unfold Mm.fused
    rw [if_pos hz]
    exact (unhide H).head (Keeps.setCell (F := (· = b)) (Keeps.refl _ _) rfl _) _ _ _ (head_set (unhide H).hd 2 _ _ fun _ => rfl)
  · have hz' : -1 ≤ z := by omega
    go_enter Tryz.func18, Tryz.ntmps18
    go_wp2
    go_end0
    refine ⟨rfl, ?_, Keeps.setCell (Keeps.refl _ _) (unhide H).fb _⟩
    unfold Mm.fused
    rw [if_neg (by omega)]
    exact (unhide H).head (Keeps.setCell (F := (· = b)) (Keeps.refl _ _) rfl _) _ _ _ (head_set (unhide H).hd 2 _ _ fun _ => rfl)

/-! ### A row of ints that came in -/
def IntsAt (w : World) (a : Option Addr) (zs : List Int) : Prop := zs = [] ∨ ∃ b off, a = some ⟨b, off, none⟩ ∧ ∀ i, i < zs.length → w.cell? ⟨b, off + i, none⟩ = some (.int .i64 (zs.getD i 0))
theorem kept_any (a : Option Addr) (keep : List Int) (cap : Nat) (hr : ∀ z ∈ keep, In64 z) (hl : keep.length ≤ 9223372036854775807) (w : World) (h : IntsAt w a keep) (i m : Nat) (hm : m ≤ 1099511627776) :
    Calls Tryz.prog 99 #[.slice a keep.length cap, .int .i64 i, .int .i64 m] w fun e w' => e = .returned (.int .i64 (keptN keep i m : Nat)) ∧ w' = w := by
  by_cases hi : i < keep.length
  · rcases h with h | ⟨b, off, rfl, h⟩
    · rw [h] at hi; simp at hi
    have hc := h i hi
    have hz := hr (keep.getD i 0) (by rw [List.getD_eq_getElem?_getD, List.getElem?_eq_getElem hi]; simp)
    have HK : Hid (keptN keep i m = ((if keep.getD i 0 < 0 then -(keep.getD i 0 + 1) else keep.getD i 0) % ((m : Int) + 1)).toNat) := by show _ = _; unfold keptN; rw [if_pos hi]
    generalize keep.getD i 0 = z at *
    have hi' : (i : Int) < (keep.length : Int) := by omega
    obtain ⟨z0, z1⟩ := hz
    clear h hr
    by_cases hn : z < 0
    · go_enter Tryz.func99, Tryz.ntmps99
      go_wp2
      go_ret
      refine ⟨nret_int ?_, rfl⟩
      rw [unhide HK, if_pos hn]
      first | exact tmod_neg z hn _ (by omega) | trace_state
    · go_enter Tryz.func99, Tryz.ntmps99
      go_wp2
      go_ret
      refine ⟨nret_int ?_, rfl⟩
      rw [unhide HK, if_neg (by omega)]
      first | exact emod_toNat z _ (by omega) | exact tmod_pos z (by omega) _ (by omega) | trace_state
  · go_enter Tryz.func99, Tryz.ntmps99
    go_wp2
    go_ret
    refine ⟨nret_int ?_, rfl⟩
    unfold keptN
    rw [if_neg hi]; rfl

end Go.Proofs.YtiafhcgaikapcaaGreat


/-
  What the closures of Store and Flush do to a memory.
-/
namespace Go.Proofs.YtiafhcgaikapcaaGreat
open Go.ChangeShapes Go.WideShapes Go.ChangeAt Go.RowKit Go.Joins
set_option linter.unusedVariables false
set_option linter.unusedSimpArgs false

/-- A store more where there is room. -/
theorem row_room {T : TypeId} {w X : World} {C : Cel} (hrow : Row T w C) (q : Nat) (v : Int) (hroom : C.l.t.length + 1 ≤ C.cap) :
    ∃ g off, C.ad = some (g, off) ∧ (∀ W : World, W.heap[g]? = w.heap[g]? → Row T (W.setCells g (off + C.l.t.length * 2) [.int .i64 q, .int .u64 v]) ⟨C.l.store q v, C.ad, C.cap⟩) ∧
      (∀ W : World, W.heap[g]? = w.heap[g]? → ∀ j, j < 2 → (W.cell? ⟨g, off + C.l.t.length * 2 + j, none⟩).isSome = true ∧ W.frozen? ⟨g, off + C.l.t.length * 2 + j, none⟩ = false) := by
  rcases hrow with ⟨_, h, _⟩ | ⟨g, off, cur, h1, h2, h3, h4, h5, h6⟩
  · omega
  · refine ⟨g, off, h1, fun W hW => Or.inr ⟨g, off, (cur.setIfInBounds (off + C.l.t.length * 2) (.int .i64 q)).setIfInBounds (off + C.l.t.length * 2 + 1) (.int .u64 v), h1, ?_, ?_, ?_, h5, ?_⟩, fun W hW j hj => ?_⟩
    · have e1 := block_setCell (hW.trans h2) (.int .i64 (q : Int)) (i := off + C.l.t.length * 2)
      have e2 := block_setCell e1 (.int .u64 v) (i := off + C.l.t.length * 2 + 1)
      exact e2
    · simpa using h3
    · simpa [Ln.store] using hroom
    · intro j hj
      simp only [Ln.store, List.length_append, List.length_singleton] at hj
      by_cases hjl : j < C.l.t.length
      · rw [Array.getElem?_setIfInBounds_ne (by omega), Array.getElem?_setIfInBounds_ne (by omega), Array.getElem?_setIfInBounds_ne (by omega), Array.getElem?_setIfInBounds_ne (by omega)]
        have := h6 j hjl
        simpa [Ln.store, List.getElem_append_left hjl] using this
      · obtain rfl : j = C.l.t.length := by omega
        rw [Array.getElem?_setIfInBounds_ne (by omega), Array.getElem?_setIfInBounds_self_of_lt (by omega), Array.getElem?_setIfInBounds_self_of_lt (by rw [Array.size_setIfInBounds]; omega)]
        simp [Ln.store]
    · have hb := hW.trans h2
      exact ⟨by rw [cell_of_block hb, Array.getElem?_eq_getElem (by omega)]; rfl, unfrozen_of_block hb _⟩

/-- The cells of stores. -/
def stV (t : List (Nat × Int)) : List Value := t.flatMap fun p => [.int .i64 (p.1 : Int), .int .u64 p.2]
theorem stV_len (t : List (Nat × Int)) : (stV t).length = t.length * 2 := by
  induction t with
  | nil => rfl
  | cons x r ih => simp [stV] at ih ⊢; omega
theorem stV_get (t : List (Nat × Int)) (j : Nat) (h : j < t.length) : (stV t)[j * 2]? = some (.int .i64 ((t[j]).1 : Int)) ∧ (stV t)[j * 2 + 1]? = some (.int .u64 (t[j]).2) := by
  induction t generalizing j with
  | nil => simp at h
  | cons x r ih =>
    cases j with
    | zero => exact ⟨rfl, rfl⟩
    | succ j =>
      have := ih j (by simpa using h)
      rw [show (j + 1) * 2 = (j * 2 + 1) + 1 by omega]
      exact this
theorem stV_append (a b : List (Nat × Int)) : stV (a ++ b) = stV a ++ stV b := by simp [stV]

/-- The stores of a line, as cells that an append reads. -/
theorem row_cells {T : TypeId} {w : World} {C : Cel} (hrow : Row T w C) : ∀ a, slot C.ad = some a → ∀ j u, (stV C.l.t)[j]? = some u → w.cell? (a.add j) = some u := by
  intro a ha j u hu
  rcases hrow with ⟨h, _⟩ | ⟨g, off, cur, h1, h2, h3, h4, h5, h6⟩
  · simp [h, slot] at ha
  · simp [h1, slot] at ha
    subst ha
    have hj : j < C.l.t.length * 2 := by
      rw [← stV_len]
      rcases Nat.lt_or_ge j (stV C.l.t).length with h' | h'
      · exact h'
      · rw [List.getElem?_eq_none h'] at hu; simp at hu
    rw [Addr.add_mid, cell_of_block h2]
    obtain ⟨p, hp⟩ : ∃ p, p = j / 2 := ⟨_, rfl⟩
    have hq := h6 p (by omega)
    have hr := stV_get C.l.t p (by omega)
    rcases (show j = p * 2 ∨ j = p * 2 + 1 by omega) with e | e
    · rw [e] at hu ⊢
      rw [hr.1] at hu
      rw [← hu]; exact hq.1
    · rw [e] at hu ⊢
      rw [hr.2] at hu
      rw [← hu, ← Nat.add_assoc]; exact hq.2

/-- A store more in a new block. -/
theorem row_new {T : TypeId} {w : World} {base : Nat} {v' : Value} {l : Ln} {q : Nat} {v : Int} (h : w.ownsRow base T 2 v' (l.t.length + 1) (stV l.t ++ [.int .i64 (q : Int), .int .u64 v])) :
    ∃ g o cap, v' = .slice (some ⟨g, o, none⟩) (l.t.length + 1) cap ∧ base ≤ g ∧ Row T w ⟨l.store q v, some (g, o), cap⟩ := by
  rcases h.2 with ⟨_, h'⟩ | ⟨g, cap, cur, rfl, hb, hg, hnc, hcm, hcs, htake⟩
  · omega
  · refine ⟨g, 0, cap, rfl, hb, Or.inr ⟨g, 0, cur, rfl, hg, ?_, ?_, ?_, ?_⟩⟩
    · simp only [Nat.zero_add]; omega
    · simpa [Ln.store] using hnc
    · unfold maxLen at hcm; omega
    · intro j hj
      have e : stV (l.store q v).t = stV l.t ++ [.int .i64 (q : Int), .int .u64 v] := by simp [Ln.store, stV]
      have hr := stV_get (l.store q v).t j hj
      rw [e] at hr
      have hl : (l.store q v).t.length = l.t.length + 1 := by simp [Ln.store]
      have hj' : j < (l.store q v).t.length := hj
      have h1 := h.cellAt (j * 2) (by omega)
      have h2 := h.cellAt (j * 2 + 1) (by omega)
      rw [cell_of_block hg] at h1 h2
      rw [Nat.zero_add]
      exact ⟨h1.trans hr.1, h2.trans hr.2⟩

theorem info_store : (Tryz.prog.info? 174).map (fun i => (i.zero, i.size, i.bytes)) = some (some (.agg #[.int .i64 0, .int .u64 0]), 2, 16) := by kernel_rfl

/-- The lines behind a store to line k. -/
theorem put_store (cs : Nat → Cel) (k q : Nat) (hq : q < 8) (v : Int) (ad : Option (Nat × Nat)) (cap : Nat) (i : Nat) :
    upd (upd (encF cs) (k * 25 + 16) (.slice (slot ad) ((cs k).l.t.length + 1) cap)) (k * 25 + 8 + q) (.int .u64 v) i = putC (encF cs) (k * 25) ⟨(cs k).l.store q v, ad, cap⟩ i := by
  unfold putC
  by_cases h1 : i = k * 25 + 8 + q
  · subst h1
    rw [upd_same, if_pos (by omega), show k * 25 + 8 + q - k * 25 = 8 + q by omega]
    simp [encAt, show ¬ (8 + q < 8) by omega, show 8 + q < 16 by omega, Ln.store_has, upd]
  · rw [upd_other _ _ _ _ h1]
    by_cases h2 : i = k * 25 + 16
    · subst h2
      rw [upd_same, if_pos (by omega), show k * 25 + 16 - k * 25 = 16 by omega]
      simp [encAt, Ln.store]
    · rw [upd_other _ _ _ _ h2]
      by_cases h3 : k * 25 ≤ i ∧ i < k * 25 + 25
      · rw [if_pos h3]
        obtain ⟨j, rfl⟩ : ∃ j, i = k * 25 + j := ⟨i - k * 25, by omega⟩
        rw [encF_at _ _ _ (by omega), show k * 25 + j - k * 25 = j by omega]
        unfold encAt
        by_cases h4 : j < 8
        · simp [h4, Ln.store]
        · by_cases h5 : j < 16
          · rw [if_neg h4, if_neg h4, if_pos h5, if_pos h5, Ln.store_has, upd_other _ _ _ _ (by omega)]
          · rw [if_neg h4, if_neg h4, if_neg h5, if_neg h5, if_neg (by omega), if_neg (by omega)]; rfl
      · rw [if_neg h3]

theorem store_end {w Y : World} {F : Nat → Prop} {b c : Nat} {A : Mm} {cs : Nat → Cel} (h : Rep w F b A c cs) (k q : Nat) (hk : k < A.n) (hq : q < 8) (v : Int) (g o cap : Nat)
    (hb : Blk Y c (A.n * 25) 170 (upd (encF cs) (k * 25 + 16) (.slice (slot (some (g, o))) ((cs k).l.t.length + 1) cap))) (hK : Keeps (fun x => x = c ∨ (cs k).blk = some x) w Y)
    (hr : Row 174 Y ⟨(A.l k).store q v, some (g, o), cap⟩) (hg : ∀ x, some g = some x → (cs k).blk = some x ∨ w.heap.size ≤ x) :
    ∃ F' cs', Rep (Y.setCell ⟨c, k * 25 + 8 + q, none⟩ (.int .u64 v)).drew F' b ⟨A.n, upd A.l k ((A.l k).store q v), A.on, A.fuse, A.steps⟩ c cs' ∧ Keeps F w (Y.setCell ⟨c, k * 25 + 8 + q, none⟩ (.int .u64 v)).drew ∧ Grew F w F' := by
  have hgc : g ≠ c := by
    rcases hg g rfl with e | e
    · exact (h.ap k hk g e).2.1
    · have := h.lt c h.fc; omega
  have hKZ : Keeps (fun x => x = c ∨ (cs k).blk = some x) w (Y.setCell ⟨c, k * 25 + 8 + q, none⟩ (.int .u64 v)).drew :=
    (Keeps.setCell (F := fun x => x = c ∨ (cs k).blk = some x) (p := ⟨c, k * 25 + 8 + q, none⟩) hK (Or.inl rfl) _).drew
  refine ⟨_, _, h.line k hk ⟨(A.l k).store q v, some (g, o), cap⟩ hKZ (fun x hx => hx) ?_ ?_ (fun x hx => hg x hx), hKZ.mono fun x _ hx => ?_, fun x hx => ?_⟩
  · refine ((hb.set (k * 25 + 8 + q) (.int .u64 v)).drew).ext fun i _ => ?_
    rw [put_store cs k q hq v (some (g, o)) cap i, h.ln k]
  · exact hr.keeps (F := (· = c)) (Keeps.setCell (F := (· = c)) (p := ⟨c, k * 25 + 8 + q, none⟩) (Keeps.refl _ _) rfl _).drew fun x hx e => by simp [Cel.blk] at hx; exact hgc (hx.trans e)
  · rcases hx with rfl | hx
    · exact h.fc
    · exact (h.ap k hk x hx).2.2
  · rcases hx with hx | hx
    · exact Or.inl hx
    · rcases hg x hx with e | e
      · exact Or.inl (h.ap k hk x e).2.2
      · exact Or.inr e

theorem Keeps.cellOf {F : Nat → Prop} {w w' : World} (h : Keeps F w w') {b o : Nat} {v : Value} (hc : w.cell? ⟨b, o, none⟩ = some v) (hF : ¬ F b) : w'.cell? ⟨b, o, none⟩ = some v := by
  have hb : b < w.heap.size := World.block_lt_of_cell? w _ hc
  rw [World.cell?_of_block (w := w) (h.block b hb hF)]; exact hc
theorem new_two (w : World) (q : Nat) (v : Int) : ∀ j u, ([.int .i64 (q : Int), .int .u64 v] : List Value)[j]? = some u → (w.alloc (.cells #[.int .i64 (q : Int), .int .u64 v] 174)).drew.drew.cell? ((⟨w.heap.size, 0, none⟩ : Addr).add j) = some u := by
  intro j u hj
  rw [Addr.add_mid]
  show (w.alloc _).cell? _ = _
  rw [cell_of_block (heap_new w _)]
  match j, hj with
  | 0, hj => simpa using hj
  | 1, hj => simpa using hj
theorem two_one (q : Nat) (v : Int) : ∀ u ∈ ([.int .i64 (q : Int), .int .u64 v] : List Value), u.oneCell' = true := by
  intro u hu
  simp at hu
  rcases hu with rfl | rfl <;> rfl

theorem storeDo {w : World} {F : Nat → Prop} {b c : Nat} {A : Mm} {cs : Nat → Cel} (h : Rep w F b A c cs) (k q : Nat) (hk : k < A.n) (hq : q < 8) (v : Int) (hlen : (A.l k).t.length ≤ 1000000) (hn : A.n ≤ 1024)
    (Bm Bl Bw Bv : Nat) (cm : w.cell? ⟨Bm, 0, none⟩ = some (.pointer (some ⟨b, 0, none⟩))) (cl : w.cell? ⟨Bl, 0, none⟩ = some (.int .i64 k)) (cw : w.cell? ⟨Bw, 0, none⟩ = some (.int .i64 q)) (cv : w.cell? ⟨Bv, 0, none⟩ = some (.int .u64 v))
    (hBw : ¬ F Bw) (hBv : ¬ F Bv) :
    Calls Tryz.prog 135 #[.pointer (some ⟨Bm, 0, none⟩), .pointer (some ⟨Bl, 0, none⟩), .pointer (some ⟨Bw, 0, none⟩), .pointer (some ⟨Bv, 0, none⟩)] w (Went F w b c ⟨A.n, upd A.l k ((A.l k).store q v), A.on, A.fuse, A.steps⟩ (.tuple #[])) := by
  obtain ⟨K0, c0⟩ := h.c0
  have cc := h.lenc k hk
  have hk' : (k : Int) < (A.n : Int) := by omega
  have H := hide h
  have hbw : Hid (Bw ≠ c) := fun e => hBw (e ▸ h.fc)
  have hbv : Hid (Bv ≠ c) := fun e => hBv (e ▸ h.fc)
  clear h
  by_cases hroom : (A.l k).t.length + 1 ≤ (cs k).cap
  · obtain ⟨cap', hcap⟩ : ∃ cap', cap' = (cs k).cap := ⟨_, rfl⟩
    obtain ⟨g', o', had, hR1, hR2⟩ := row_room (X := w) ((unhide H).row k hk) q v (by rw [(unhide H).ln k]; exact hroom)
    rw [had, show slot (some (g', o')) = some ⟨g', o', none⟩ from rfl, ← hcap] at cc
    rw [← hcap] at hroom
    rw [(unhide H).ln k] at hR1 hR2
    rw [← hcap] at hR1
    have HR1 := hide hR1
    have HR2 := hide hR2
    have HAD := hide had
    have hgl : Hid (g' < w.heap.size) := ((unhide H).row k hk).lt g' (by simp [Cel.blk, had])
    have hgc : g' ≠ c := ((unhide H).ap k hk g' (by simp [Cel.blk, had])).2.1
    clear hR1 hR2 had hcap
    go_enter Tryz.func135, Tryz.ntmps135
    go_wp2
    go_region
    go_wp2
    refine wp_region_noPanic ?_
    refine wp_region_held_drew (S := fun w' => w'.cell? ⟨Bw, 0, none⟩ = some (.int .i64 q) ∧ w'.cell? ⟨Bv, 0, none⟩ = some (.int .u64 v)) (by kernel_rfl) ⟨cw, cv⟩ (fun hHeld => ?_)
    refine take_at 0 11 (v := ?_) rfl rfl (by kernel_rfl) (by kernel_rfl) (by kernel_rfl) (Or.inl ⟨by rfl, ?_⟩) hHeld ?_
    rotate_left
    · intro w hSw; go_simp; with_reducible rfl
    simp only [Act.put, List.setIfInBounds_toArray, List.set_cons_zero, List.set_cons_succ]
    refine take_at 1 12 (v := ?_) rfl rfl (by kernel_rfl) (by kernel_rfl) (by kernel_rfl) (Or.inl ⟨by rfl, ?_⟩) hHeld ?_
    rotate_left
    · intro w hSw; go_simp; with_reducible rfl
    simp only [Act.put, List.setIfInBounds_toArray, List.set_cons_zero, List.set_cons_succ]
    refine take_at 2 13 (v := ?_) rfl rfl (by kernel_rfl) (by kernel_rfl) (by kernel_rfl) (Or.inl ⟨by rfl, ?_⟩) hHeld ?_
    rotate_left
    · intro w hSw; go_simp; with_reducible rfl
    simp only [Act.put, List.setIfInBounds_toArray, List.set_cons_zero, List.set_cons_succ]
    refine take_at 3 14 (v := ?_) rfl rfl (by kernel_rfl) (by kernel_rfl) (by kernel_rfl) (Or.inl ⟨by rfl, ?_⟩) hHeld ?_
    rotate_left
    · intro w hSw; go_simp; with_reducible rfl
    simp only [Act.put, List.setIfInBounds_toArray, List.set_cons_zero, List.set_cons_succ]
    refine take_at 5 16 (v := ?_) rfl rfl (by kernel_rfl) (by kernel_rfl) (by kernel_rfl) (Or.inl ⟨by rfl, ?_⟩) hHeld ?_
    rotate_left
    · intro w hSw; obtain ⟨s1, s2⟩ := hSw; go_simp; with_reducible rfl
    simp only [Act.put, List.setIfInBounds_toArray, List.set_cons_zero, List.set_cons_succ]
    refine take_at 6 17 (v := ?_) rfl rfl (by kernel_rfl) (by kernel_rfl) (by kernel_rfl) (Or.inl ⟨by rfl, ?_⟩) hHeld ?_
    rotate_left
    · intro w hSw; obtain ⟨s1, s2⟩ := hSw; go_simp; with_reducible rfl
    simp only [Act.put, List.setIfInBounds_toArray, List.set_cons_zero, List.set_cons_succ]
    refine take_at 7 18 (v := ?_) rfl rfl (by kernel_rfl) (by kernel_rfl) (by kernel_rfl) (Or.inl ⟨by rfl, ?_⟩) hHeld ?_
    rotate_left
    · intro w hSw; go_simp; with_reducible rfl
    simp only [Act.put, List.setIfInBounds_toArray, List.set_cons_zero, List.set_cons_succ]
    have hS1 : (w.drew.drew.alloc (.cells #[.int .i64 (q : Int), .int .u64 v] 174)).cell? ⟨Bw, 0, none⟩ = some (.int .i64 q) ∧ (w.drew.drew.alloc (.cells #[.int .i64 (q : Int), .int .u64 v] 174)).cell? ⟨Bv, 0, none⟩ = some (.int .u64 v) :=
      ⟨(World.cell?_alloc_some _ _ _ (by rw [hHeld.1]; rfl)).trans hHeld.1, (World.cell?_alloc_some _ _ _ (by rw [hHeld.2]; rfl)).trans hHeld.2⟩
    have HS1 := hide hS1
    clear hS1
    refine wpAnyH_ready (rs := [4, 8]) (by kernel_rfl) (by simp) ?_
    refine AllReadyH.cons rfl (fun K hK => ?_) (AllReadyH.cons rfl (fun K hK => ?_) AllReadyH.nil)
    · go_simp
      refine hK.out _ _ hHeld (fun hNew => ?_)
      clear hK K
      refine wpAnyH_ready (rs := [8]) (by kernel_rfl) (by simp) ?_
      refine AllReadyH.cons rfl (fun K hK => ?_) AllReadyH.nil
      go_simp
      refine hK.out _ _ (unhide HS1) (fun hNew => ?_)
      clear hK K
      clear hHeld
      refine wpAnyH_ready (rs := [9]) (by kernel_rfl) (by simp) ?_
      refine AllReadyH.cons rfl (fun K hK => ?_) AllReadyH.nil
      obtain ⟨i0, hi, hz0, hz1, hz2⟩ := info_parts info_store
      refine step_append_room rfl (.tmp 15) (.tmp 19) 168 rfl 174 i0 2 Tryz.underlying168 hi hz1 g' o' (A.l k).t.length cap' rfl ⟨w.heap.size, 0, none⟩ 1 1 [.int .i64 (q : Int), .int .u64 v] rfl rfl (new_two w q v) (two_one q v) hroom (fun j hj => unhide HR2 _ (Below.heap_alloc w _ g' (unhide hgl)) j hj) ?_
      have HRX : Hid (Row 174 ((w.alloc (.cells #[.int .i64 (q : Int), .int .u64 v] 174)).drew.drew.setCells g' (o' + (A.l k).t.length * 2) [.int .i64 (q : Int), .int .u64 v]) ⟨(A.l k).store q v, some (g', o'), cap'⟩) := by
        have := unhide HR1 (w.alloc (.cells #[.int .i64 (q : Int), .int .u64 v] 174)).drew.drew (Below.heap_alloc w _ g' (unhide hgl))
        rw [unhide HAD] at this; exact this
      have HKX : Hid (Keeps (fun x => (cs k).blk = some x) w ((w.alloc (.cells #[.int .i64 (q : Int), .int .u64 v] 174)).drew.drew.setCells g' (o' + (A.l k).t.length * 2) [.int .i64 (q : Int), .int .u64 v])) :=
        Keeps.setCell (Keeps.setCell ((Keeps.refl _ _).alloc _).drew.drew (by simp [Cel.blk, unhide HAD]) _) (by simp [Cel.blk, unhide HAD]) _
      have hgb : Hid (∀ x, some g' = some x → (cs k).blk = some x ∨ w.heap.size ≤ x) := fun x hx => Or.inl (by simp [Cel.blk, unhide HAD]; simpa using hx)
      have hS2 : ((w.alloc (.cells #[.int .i64 (q : Int), .int .u64 v] 174)).drew.drew.setCells g' (o' + (A.l k).t.length * 2) [.int .i64 (q : Int), .int .u64 v]).cell? ⟨Bw, 0, none⟩ = some (.int .i64 q) ∧ ((w.alloc (.cells #[.int .i64 (q : Int), .int .u64 v] 174)).drew.drew.setCells g' (o' + (A.l k).t.length * 2) [.int .i64 (q : Int), .int .u64 v]).cell? ⟨Bv, 0, none⟩ = some (.int .u64 v) :=
        ⟨(unhide HKX).cellOf cw (fun e => hBw ((unhide H).ap k hk _ e).2.2), (unhide HKX).cellOf cv (fun e => hBv ((unhide H).ap k hk _ e).2.2)⟩
      have HBX : Hid (Blk ((w.alloc (.cells #[.int .i64 (q : Int), .int .u64 v] 174)).drew.drew.setCells g' (o' + (A.l k).t.length * 2) [.int .i64 (q : Int), .int .u64 v]) c (A.n * 25) 170 (encF cs)) := (unhide H).bl.keeps (unhide HKX) fun e => ((unhide H).ap k hk _ e).2.1 rfl
      generalize (w.alloc (.cells #[.int .i64 (q : Int), .int .u64 v] 174)).drew.drew.setCells g' (o' + (A.l k).t.length * 2) [.int .i64 (q : Int), .int .u64 v] = X at *
      refine hK.out _ _ hS2 (fun hNew => ?_)
      clear hK K hS2 hi hz0 hz1 hz2 i0
      have hHeld := hNew
      clear hNew
      simp only [Act.put, List.setIfInBounds_toArray]
      refine take_at 10 21 (v := ?_) rfl rfl (by kernel_rfl) (by kernel_rfl) (by kernel_rfl) (Or.inl ⟨by rfl, ?_⟩) hHeld ?_
      rotate_left
      · intro w hSw; go_simp; with_reducible rfl
      simp only [Act.put, List.setIfInBounds_toArray, List.set_cons_zero, List.set_cons_succ]
      refine take_at 11 22 (v := ?_) rfl rfl (by kernel_rfl) (by kernel_rfl) (by kernel_rfl) (Or.inl ⟨by rfl, ?_⟩) hHeld ?_
      rotate_left
      · intro w hSw; go_simp; with_reducible rfl
      simp only [Act.put, List.setIfInBounds_toArray, List.set_cons_zero, List.set_cons_succ]
      refine wpAnyH_ready (rs := [12]) (by kernel_rfl) (by simp) ?_
      refine AllReadyH.cons rfl (fun K hK => ?_) AllReadyH.nil
      have xc : X.cell? ⟨c, k * 25 + 16, none⟩ = some (encF cs (k * 25 + 16)) := (unhide HBX).cell _ (by omega)
      have xf : X.frozen? ⟨c, k * 25 + 16, none⟩ = false := (unhide HBX).free _
      go_simp
      have hS3 : (X.setCell ⟨c, k * 25 + 16, none⟩ (.slice (some ⟨g', o', none⟩) ((A.l k).t.length + 1) cap')).cell? ⟨Bw, 0, none⟩ = some (.int .i64 q) ∧ (X.setCell ⟨c, k * 25 + 16, none⟩ (.slice (some ⟨g', o', none⟩) ((A.l k).t.length + 1) cap')).cell? ⟨Bv, 0, none⟩ = some (.int .u64 v) :=
        ⟨(World.cell?_setCell_far _ _ _ _ (Ne.symm (unhide hbw))).trans hHeld.1, (World.cell?_setCell_far _ _ _ _ (Ne.symm (unhide hbv))).trans hHeld.2⟩
      refine hK.out _ _ hS3 (fun hNew => ?_)
      clear hK K
      refine wpAnyH_done (by kernel_rfl) ?_ _
      refine NoPanic.normal ?_
      clear hNew hHeld xc xf
      obtain ⟨yw, yv⟩ := hS3
      have HBY : Hid (Blk (X.setCell ⟨c, k * 25 + 16, none⟩ (.slice (some ⟨g', o', none⟩) ((A.l k).t.length + 1) cap')) c (A.n * 25) 170 (upd (encF cs) (k * 25 + 16) (.slice (slot (some (g', o'))) ((cs k).l.t.length + 1) cap'))) := by
        rw [(unhide H).ln k]; exact (unhide HBX).set _ _
      have HKY : Hid (Keeps (fun x => x = c ∨ (cs k).blk = some x) w (X.setCell ⟨c, k * 25 + 16, none⟩ (.slice (some ⟨g', o', none⟩) ((A.l k).t.length + 1) cap'))) :=
        Keeps.setCell (F := fun x => x = c ∨ (cs k).blk = some x) (p := ⟨c, k * 25 + 16, none⟩) ((unhide HKX).mono fun _ _ h => Or.inr h) (Or.inl rfl) _
      have HRY : Hid (Row 174 (X.setCell ⟨c, k * 25 + 16, none⟩ (.slice (some ⟨g', o', none⟩) ((A.l k).t.length + 1) cap')) ⟨(A.l k).store q v, some (g', o'), cap'⟩) :=
        (unhide HRX).keeps (F := (· = c)) (Keeps.setCell (F := (· = c)) (p := ⟨c, k * 25 + 16, none⟩) (Keeps.refl _ _) rfl _) fun g hg e => by simp [Cel.blk] at hg; exact hgc (hg.trans e)
      generalize X.setCell ⟨c, k * 25 + 16, none⟩ (.slice (some ⟨g', o', none⟩) ((A.l k).t.length + 1) cap') = Y at *
      clear HBX HKX HRX cm cl cw cv c0 cc HS1
      have yc : Y.cell? ⟨c, k * 25 + 8 + q, none⟩ = some (upd (encF cs) (k * 25 + 16) (.slice (slot (some (g', o'))) ((cs k).l.t.length + 1) cap') (k * 25 + 8 + q)) := (unhide HBY).cell _ (by omega)
      have yf : Y.frozen? ⟨c, k * 25 + 8 + q, none⟩ = false := (unhide HBY).free _
      generalize upd (encF cs) (k * 25 + 16) (.slice (slot (some (g', o'))) ((cs k).l.t.length + 1) cap') (k * 25 + 8 + q) = old at *
      have q0 : (0 : Int) ≤ (q : Int) := by omega
      have q8 : (q : Int) < 8 := by omega
      go_wp2
      go_region
      go_wp2
      go_end0
      exact ⟨rfl, store_end (unhide H) k q hk hq v g' o' cap' (unhide HBY) (unhide HKY) (unhide HRY) (unhide hgb)⟩
    · go_simp
      refine hK.out _ _ (unhide HS1) (fun hNew => ?_)
      clear hK K
      refine wpAnyH_ready (rs := [4]) (by kernel_rfl) (by simp) ?_
      refine AllReadyH.cons rfl (fun K hK => ?_) AllReadyH.nil
      have cc1 := (World.cell?_alloc_some w ⟨c, k * 25 + 16, none⟩ (.cells #[.int .i64 (q : Int), .int .u64 v] 174) (by rw [cc]; rfl)).trans cc
      go_simp
      clear cc1
      refine hK.out _ _ (unhide HS1) (fun hNew => ?_)
      clear hK K
      clear hHeld
      refine wpAnyH_ready (rs := [9]) (by kernel_rfl) (by simp) ?_
      refine AllReadyH.cons rfl (fun K hK => ?_) AllReadyH.nil
      obtain ⟨i0, hi, hz0, hz1, hz2⟩ := info_parts info_store
      refine step_append_room rfl (.tmp 15) (.tmp 19) 168 rfl 174 i0 2 Tryz.underlying168 hi hz1 g' o' (A.l k).t.length cap' rfl ⟨w.heap.size, 0, none⟩ 1 1 [.int .i64 (q : Int), .int .u64 v] rfl rfl (new_two w q v) (two_one q v) hroom (fun j hj => unhide HR2 _ (Below.heap_alloc w _ g' (unhide hgl)) j hj) ?_
      have HRX : Hid (Row 174 ((w.alloc (.cells #[.int .i64 (q : Int), .int .u64 v] 174)).drew.drew.setCells g' (o' + (A.l k).t.length * 2) [.int .i64 (q : Int), .int .u64 v]) ⟨(A.l k).store q v, some (g', o'), cap'⟩) := by
        have := unhide HR1 (w.alloc (.cells #[.int .i64 (q : Int), .int .u64 v] 174)).drew.drew (Below.heap_alloc w _ g' (unhide hgl))
        rw [unhide HAD] at this; exact this
      have HKX : Hid (Keeps (fun x => (cs k).blk = some x) w ((w.alloc (.cells #[.int .i64 (q : Int), .int .u64 v] 174)).drew.drew.setCells g' (o' + (A.l k).t.length * 2) [.int .i64 (q : Int), .int .u64 v])) :=
        Keeps.setCell (Keeps.setCell ((Keeps.refl _ _).alloc _).drew.drew (by simp [Cel.blk, unhide HAD]) _) (by simp [Cel.blk, unhide HAD]) _
      have hgb : Hid (∀ x, some g' = some x → (cs k).blk = some x ∨ w.heap.size ≤ x) := fun x hx => Or.inl (by simp [Cel.blk, unhide HAD]; simpa using hx)
      have hS2 : ((w.alloc (.cells #[.int .i64 (q : Int), .int .u64 v] 174)).drew.drew.setCells g' (o' + (A.l k).t.length * 2) [.int .i64 (q : Int), .int .u64 v]).cell? ⟨Bw, 0, none⟩ = some (.int .i64 q) ∧ ((w.alloc (.cells #[.int .i64 (q : Int), .int .u64 v] 174)).drew.drew.setCells g' (o' + (A.l k).t.length * 2) [.int .i64 (q : Int), .int .u64 v]).cell? ⟨Bv, 0, none⟩ = some (.int .u64 v) :=
        ⟨(unhide HKX).cellOf cw (fun e => hBw ((unhide H).ap k hk _ e).2.2), (unhide HKX).cellOf cv (fun e => hBv ((unhide H).ap k hk _ e).2.2)⟩
      have HBX : Hid (Blk ((w.alloc (.cells #[.int .i64 (q : Int), .int .u64 v] 174)).drew.drew.setCells g' (o' + (A.l k).t.length * 2) [.int .i64 (q : Int), .int .u64 v]) c (A.n * 25) 170 (encF cs)) := (unhide H).bl.keeps (unhide HKX) fun e => ((unhide H).ap k hk _ e).2.1 rfl
      generalize (w.alloc (.cells #[.int .i64 (q : Int), .int .u64 v] 174)).drew.drew.setCells g' (o' + (A.l k).t.length * 2) [.int .i64 (q : Int), .int .u64 v] = X at *
      refine hK.out _ _ hS2 (fun hNew => ?_)
      clear hK K hS2 hi hz0 hz1 hz2 i0
      have hHeld := hNew
      clear hNew
      simp only [Act.put, List.setIfInBounds_toArray]
      refine take_at 10 21 (v := ?_) rfl rfl (by kernel_rfl) (by kernel_rfl) (by kernel_rfl) (Or.inl ⟨by rfl, ?_⟩) hHeld ?_
      rotate_left
      · intro w hSw; go_simp; with_reducible rfl
      simp only [Act.put, List.setIfInBounds_toArray, List.set_cons_zero, List.set_cons_succ]
      refine take_at 11 22 (v := ?_) rfl rfl (by kernel_rfl) (by kernel_rfl) (by kernel_rfl) (Or.inl ⟨by rfl, ?_⟩) hHeld ?_
      rotate_left
      · intro w hSw; go_simp; with_reducible rfl
      simp only [Act.put, List.setIfInBounds_toArray, List.set_cons_zero, List.set_cons_succ]
      refine wpAnyH_ready (rs := [12]) (by kernel_rfl) (by simp) ?_
      refine AllReadyH.cons rfl (fun K hK => ?_) AllReadyH.nil
      have xc : X.cell? ⟨c, k * 25 + 16, none⟩ = some (encF cs (k * 25 + 16)) := (unhide HBX).cell _ (by omega)
      have xf : X.frozen? ⟨c, k * 25 + 16, none⟩ = false := (unhide HBX).free _
      go_simp
      have hS3 : (X.setCell ⟨c, k * 25 + 16, none⟩ (.slice (some ⟨g', o', none⟩) ((A.l k).t.length + 1) cap')).cell? ⟨Bw, 0, none⟩ = some (.int .i64 q) ∧ (X.setCell ⟨c, k * 25 + 16, none⟩ (.slice (some ⟨g', o', none⟩) ((A.l k).t.length + 1) cap')).cell? ⟨Bv, 0, none⟩ = some (.int .u64 v) :=
        ⟨(World.cell?_setCell_far _ _ _ _ (Ne.symm (unhide hbw))).trans hHeld.1, (World.cell?_setCell_far _ _ _ _ (Ne.symm (unhide hbv))).trans hHeld.2⟩
      refine hK.out _ _ hS3 (fun hNew => ?_)
      clear hK K
      refine wpAnyH_done (by kernel_rfl) ?_ _
      refine NoPanic.normal ?_
      clear hNew hHeld xc xf
      obtain ⟨yw, yv⟩ := hS3
      have HBY : Hid (Blk (X.setCell ⟨c, k * 25 + 16, none⟩ (.slice (some ⟨g', o', none⟩) ((A.l k).t.length + 1) cap')) c (A.n * 25) 170 (upd (encF cs) (k * 25 + 16) (.slice (slot (some (g', o'))) ((cs k).l.t.length + 1) cap'))) := by
        rw [(unhide H).ln k]; exact (unhide HBX).set _ _
      have HKY : Hid (Keeps (fun x => x = c ∨ (cs k).blk = some x) w (X.setCell ⟨c, k * 25 + 16, none⟩ (.slice (some ⟨g', o', none⟩) ((A.l k).t.length + 1) cap'))) :=
        Keeps.setCell (F := fun x => x = c ∨ (cs k).blk = some x) (p := ⟨c, k * 25 + 16, none⟩) ((unhide HKX).mono fun _ _ h => Or.inr h) (Or.inl rfl) _
      have HRY : Hid (Row 174 (X.setCell ⟨c, k * 25 + 16, none⟩ (.slice (some ⟨g', o', none⟩) ((A.l k).t.length + 1) cap')) ⟨(A.l k).store q v, some (g', o'), cap'⟩) :=
        (unhide HRX).keeps (F := (· = c)) (Keeps.setCell (F := (· = c)) (p := ⟨c, k * 25 + 16, none⟩) (Keeps.refl _ _) rfl _) fun g hg e => by simp [Cel.blk] at hg; exact hgc (hg.trans e)
      generalize X.setCell ⟨c, k * 25 + 16, none⟩ (.slice (some ⟨g', o', none⟩) ((A.l k).t.length + 1) cap') = Y at *
      clear HBX HKX HRX cm cl cw cv c0 cc HS1
      have yc : Y.cell? ⟨c, k * 25 + 8 + q, none⟩ = some (upd (encF cs) (k * 25 + 16) (.slice (slot (some (g', o'))) ((cs k).l.t.length + 1) cap') (k * 25 + 8 + q)) := (unhide HBY).cell _ (by omega)
      have yf : Y.frozen? ⟨c, k * 25 + 8 + q, none⟩ = false := (unhide HBY).free _
      generalize upd (encF cs) (k * 25 + 16) (.slice (slot (some (g', o'))) ((cs k).l.t.length + 1) cap') (k * 25 + 8 + q) = old at *
      have q0 : (0 : Int) ≤ (q : Int) := by omega
      have q8 : (q : Int) < 8 := by omega
      go_wp2
      go_region
      go_wp2
      go_end0
      exact ⟨rfl, store_end (unhide H) k q hk hq v g' o' cap' (unhide HBY) (unhide HKY) (unhide HRY) (unhide hgb)⟩
  · obtain ⟨capo, hcap⟩ : ∃ capo, capo = (cs k).cap := ⟨_, rfl⟩
    obtain ⟨ao, hao⟩ : ∃ ao, ao = slot (cs k).ad := ⟨_, rfl⟩
    have hno : ao = none → (A.l k).t.length = 0 ∧ capo = 0 := fun e => by
      rcases (unhide H).row k hk with ⟨_, h1, h2⟩ | ⟨g, off, cur, h1, _⟩
      · rw [(unhide H).ln k] at h2; exact ⟨by rw [h2]; rfl, by omega⟩
      · rw [e, h1] at hao; simp [slot] at hao
    have hce : ∀ a, ao = some a → ∀ j u, (stV (A.l k).t)[j]? = some u → (w.alloc (.cells #[.int .i64 (q : Int), .int .u64 v] 174)).drew.drew.cell? (a.add j) = some u := fun a ha j u hj => by
      have := row_cells ((unhide H).row k hk) a (hao ▸ ha) j u (by rw [(unhide H).ln k]; exact hj)
      exact (World.cell?_alloc_some w _ _ (by rw [this]; rfl)).trans this
    rw [← hcap, ← hao] at cc
    rw [← hcap] at hroom
    have HNO := hide hno
    have HCE := hide hce
    clear hno hce hao hcap
    go_enter Tryz.func135, Tryz.ntmps135
    go_wp2
    go_region
    go_wp2
    refine wp_region_noPanic ?_
    refine wp_region_held_drew (S := fun w' => w'.cell? ⟨Bw, 0, none⟩ = some (.int .i64 q) ∧ w'.cell? ⟨Bv, 0, none⟩ = some (.int .u64 v)) (by kernel_rfl) ⟨cw, cv⟩ (fun hHeld => ?_)
    refine take_at 0 11 (v := ?_) rfl rfl (by kernel_rfl) (by kernel_rfl) (by kernel_rfl) (Or.inl ⟨by rfl, ?_⟩) hHeld ?_
    rotate_left
    · intro w hSw; go_simp; with_reducible rfl
    simp only [Act.put, List.setIfInBounds_toArray, List.set_cons_zero, List.set_cons_succ]
    refine take_at 1 12 (v := ?_) rfl rfl (by kernel_rfl) (by kernel_rfl) (by kernel_rfl) (Or.inl ⟨by rfl, ?_⟩) hHeld ?_
    rotate_left
    · intro w hSw; go_simp; with_reducible rfl
    simp only [Act.put, List.setIfInBounds_toArray, List.set_cons_zero, List.set_cons_succ]
    refine take_at 2 13 (v := ?_) rfl rfl (by kernel_rfl) (by kernel_rfl) (by kernel_rfl) (Or.inl ⟨by rfl, ?_⟩) hHeld ?_
    rotate_left
    · intro w hSw; go_simp; with_reducible rfl
    simp only [Act.put, List.setIfInBounds_toArray, List.set_cons_zero, List.set_cons_succ]
    refine take_at 3 14 (v := ?_) rfl rfl (by kernel_rfl) (by kernel_rfl) (by kernel_rfl) (Or.inl ⟨by rfl, ?_⟩) hHeld ?_
    rotate_left
    · intro w hSw; go_simp; with_reducible rfl
    simp only [Act.put, List.setIfInBounds_toArray, List.set_cons_zero, List.set_cons_succ]
    refine take_at 5 16 (v := ?_) rfl rfl (by kernel_rfl) (by kernel_rfl) (by kernel_rfl) (Or.inl ⟨by rfl, ?_⟩) hHeld ?_
    rotate_left
    · intro w hSw; obtain ⟨s1, s2⟩ := hSw; go_simp; with_reducible rfl
    simp only [Act.put, List.setIfInBounds_toArray, List.set_cons_zero, List.set_cons_succ]
    refine take_at 6 17 (v := ?_) rfl rfl (by kernel_rfl) (by kernel_rfl) (by kernel_rfl) (Or.inl ⟨by rfl, ?_⟩) hHeld ?_
    rotate_left
    · intro w hSw; obtain ⟨s1, s2⟩ := hSw; go_simp; with_reducible rfl
    simp only [Act.put, List.setIfInBounds_toArray, List.set_cons_zero, List.set_cons_succ]
    refine take_at 7 18 (v := ?_) rfl rfl (by kernel_rfl) (by kernel_rfl) (by kernel_rfl) (Or.inl ⟨by rfl, ?_⟩) hHeld ?_
    rotate_left
    · intro w hSw; go_simp; with_reducible rfl
    simp only [Act.put, List.setIfInBounds_toArray, List.set_cons_zero, List.set_cons_succ]
    have hS1 : (w.drew.drew.alloc (.cells #[.int .i64 (q : Int), .int .u64 v] 174)).cell? ⟨Bw, 0, none⟩ = some (.int .i64 q) ∧ (w.drew.drew.alloc (.cells #[.int .i64 (q : Int), .int .u64 v] 174)).cell? ⟨Bv, 0, none⟩ = some (.int .u64 v) :=
      ⟨(World.cell?_alloc_some _ _ _ (by rw [hHeld.1]; rfl)).trans hHeld.1, (World.cell?_alloc_some _ _ _ (by rw [hHeld.2]; rfl)).trans hHeld.2⟩
    have HS1 := hide hS1
    clear hS1
    refine wpAnyH_ready (rs := [4, 8]) (by kernel_rfl) (by simp) ?_
    refine AllReadyH.cons rfl (fun K hK => ?_) (AllReadyH.cons rfl (fun K hK => ?_) AllReadyH.nil)
    · go_simp
      refine hK.out _ _ hHeld (fun hNew => ?_)
      clear hK K
      refine wpAnyH_ready (rs := [8]) (by kernel_rfl) (by simp) ?_
      refine AllReadyH.cons rfl (fun K hK => ?_) AllReadyH.nil
      go_simp
      refine hK.out _ _ (unhide HS1) (fun hNew => ?_)
      clear hK K
      clear hHeld
      refine wpAnyH_ready (rs := [9]) (by kernel_rfl) (by simp) ?_
      refine AllReadyH.cons rfl (fun K hK => ?_) AllReadyH.nil
      obtain ⟨i0, hi, hz0, hz1, hz2⟩ := info_parts info_store
      refine step_append_grows rfl (.tmp 15) (.tmp 19) 168 rfl 174 i0 _ 2 16 Tryz.underlying168 hi hz0 hz1 hz2 rfl (by decide) ao (A.l k).t.length capo (stV (A.l k).t) rfl (unhide HNO) (stV_len _) (fun a ha j u hj => unhide HCE a ha j u hj) ⟨w.heap.size, 0, none⟩ 1 1 [.int .i64 (q : Int), .int .u64 v] rfl rfl (new_two w q v) (two_one q v) (by omega) (by unfold maxLen; omega) (by omega) ?_
      intro v' X hown hgrow
      obtain ⟨g', o', cap', rfl, hbase, hRX⟩ := row_new hown
      have HRX := hide hRX
      clear hown hRX
      have hbase' : w.heap.size ≤ g' := by
        have h1 : (w.alloc (.cells #[.int .i64 (q : Int), .int .u64 v] 174)).heap.size ≤ g' := hbase
        simp at h1; omega
      have hgc : g' ≠ c := by have := (unhide H).lt c (unhide H).fc; omega
      have HKX : Hid (Keeps (fun x => (cs k).blk = some x) w X) := Keeps.grown (((Keeps.refl _ _).alloc _).drew.drew) hgrow (fun k hk => by simp at hk)
      have hgb : Hid (∀ x, some g' = some x → (cs k).blk = some x ∨ w.heap.size ≤ x) := fun x hx => Or.inr (by simp at hx; omega)
      have hS2 : X.cell? ⟨Bw, 0, none⟩ = some (.int .i64 q) ∧ X.cell? ⟨Bv, 0, none⟩ = some (.int .u64 v) :=
        ⟨(unhide HKX).cellOf cw (fun e => hBw ((unhide H).ap k hk _ e).2.2), (unhide HKX).cellOf cv (fun e => hBv ((unhide H).ap k hk _ e).2.2)⟩
      have HBX : Hid (Blk X c (A.n * 25) 170 (encF cs)) := (unhide H).bl.keeps (unhide HKX) fun e => ((unhide H).ap k hk _ e).2.1 rfl
      clear hgrow hbase hbase'
      refine hK.out _ _ hS2 (fun hNew => ?_)
      clear hK K hS2 hi hz0 hz1 hz2 i0
      have hHeld := hNew
      clear hNew
      simp only [Act.put, List.setIfInBounds_toArray]
      refine take_at 10 21 (v := ?_) rfl rfl (by kernel_rfl) (by kernel_rfl) (by kernel_rfl) (Or.inl ⟨by rfl, ?_⟩) hHeld ?_
      rotate_left
      · intro w hSw; go_simp; with_reducible rfl
      simp only [Act.put, List.setIfInBounds_toArray, List.set_cons_zero, List.set_cons_succ]
      refine take_at 11 22 (v := ?_) rfl rfl (by kernel_rfl) (by kernel_rfl) (by kernel_rfl) (Or.inl ⟨by rfl, ?_⟩) hHeld ?_
      rotate_left
      · intro w hSw; go_simp; with_reducible rfl
      simp only [Act.put, List.setIfInBounds_toArray, List.set_cons_zero, List.set_cons_succ]
      refine wpAnyH_ready (rs := [12]) (by kernel_rfl) (by simp) ?_
      refine AllReadyH.cons rfl (fun K hK => ?_) AllReadyH.nil
      have xc : X.cell? ⟨c, k * 25 + 16, none⟩ = some (encF cs (k * 25 + 16)) := (unhide HBX).cell _ (by omega)
      have xf : X.frozen? ⟨c, k * 25 + 16, none⟩ = false := (unhide HBX).free _
      go_simp
      have hS3 : (X.setCell ⟨c, k * 25 + 16, none⟩ (.slice (some ⟨g', o', none⟩) ((A.l k).t.length + 1) cap')).cell? ⟨Bw, 0, none⟩ = some (.int .i64 q) ∧ (X.setCell ⟨c, k * 25 + 16, none⟩ (.slice (some ⟨g', o', none⟩) ((A.l k).t.length + 1) cap')).cell? ⟨Bv, 0, none⟩ = some (.int .u64 v) :=
        ⟨(World.cell?_setCell_far _ _ _ _ (Ne.symm (unhide hbw))).trans hHeld.1, (World.cell?_setCell_far _ _ _ _ (Ne.symm (unhide hbv))).trans hHeld.2⟩
      refine hK.out _ _ hS3 (fun hNew => ?_)
      clear hK K
      refine wpAnyH_done (by kernel_rfl) ?_ _
      refine NoPanic.normal ?_
      clear hNew hHeld xc xf
      obtain ⟨yw, yv⟩ := hS3
      have HBY : Hid (Blk (X.setCell ⟨c, k * 25 + 16, none⟩ (.slice (some ⟨g', o', none⟩) ((A.l k).t.length + 1) cap')) c (A.n * 25) 170 (upd (encF cs) (k * 25 + 16) (.slice (slot (some (g', o'))) ((cs k).l.t.length + 1) cap'))) := by
        rw [(unhide H).ln k]; exact (unhide HBX).set _ _
      have HKY : Hid (Keeps (fun x => x = c ∨ (cs k).blk = some x) w (X.setCell ⟨c, k * 25 + 16, none⟩ (.slice (some ⟨g', o', none⟩) ((A.l k).t.length + 1) cap'))) :=
        Keeps.setCell (F := fun x => x = c ∨ (cs k).blk = some x) (p := ⟨c, k * 25 + 16, none⟩) ((unhide HKX).mono fun _ _ h => Or.inr h) (Or.inl rfl) _
      have HRY : Hid (Row 174 (X.setCell ⟨c, k * 25 + 16, none⟩ (.slice (some ⟨g', o', none⟩) ((A.l k).t.length + 1) cap')) ⟨(A.l k).store q v, some (g', o'), cap'⟩) :=
        (unhide HRX).keeps (F := (· = c)) (Keeps.setCell (F := (· = c)) (p := ⟨c, k * 25 + 16, none⟩) (Keeps.refl _ _) rfl _) fun g hg e => by simp [Cel.blk] at hg; exact hgc (hg.trans e)
      generalize X.setCell ⟨c, k * 25 + 16, none⟩ (.slice (some ⟨g', o', none⟩) ((A.l k).t.length + 1) cap') = Y at *
      clear HBX HKX HRX cm cl cw cv c0 cc HS1
      have yc : Y.cell? ⟨c, k * 25 + 8 + q, none⟩ = some (upd (encF cs) (k * 25 + 16) (.slice (slot (some (g', o'))) ((cs k).l.t.length + 1) cap') (k * 25 + 8 + q)) := (unhide HBY).cell _ (by omega)
      have yf : Y.frozen? ⟨c, k * 25 + 8 + q, none⟩ = false := (unhide HBY).free _
      generalize upd (encF cs) (k * 25 + 16) (.slice (slot (some (g', o'))) ((cs k).l.t.length + 1) cap') (k * 25 + 8 + q) = old at *
      have q0 : (0 : Int) ≤ (q : Int) := by omega
      have q8 : (q : Int) < 8 := by omega
      go_wp2
      go_region
      go_wp2
      go_end0
      exact ⟨rfl, store_end (unhide H) k q hk hq v g' o' cap' (unhide HBY) (unhide HKY) (unhide HRY) (unhide hgb)⟩
    · go_simp
      refine hK.out _ _ (unhide HS1) (fun hNew => ?_)
      clear hK K
      refine wpAnyH_ready (rs := [4]) (by kernel_rfl) (by simp) ?_
      refine AllReadyH.cons rfl (fun K hK => ?_) AllReadyH.nil
      have cc1 := (World.cell?_alloc_some w ⟨c, k * 25 + 16, none⟩ (.cells #[.int .i64 (q : Int), .int .u64 v] 174) (by rw [cc]; rfl)).trans cc
      go_simp
      clear cc1
      refine hK.out _ _ (unhide HS1) (fun hNew => ?_)
      clear hK K
      clear hHeld
      refine wpAnyH_ready (rs := [9]) (by kernel_rfl) (by simp) ?_
      refine AllReadyH.cons rfl (fun K hK => ?_) AllReadyH.nil
      obtain ⟨i0, hi, hz0, hz1, hz2⟩ := info_parts info_store
      refine step_append_grows rfl (.tmp 15) (.tmp 19) 168 rfl 174 i0 _ 2 16 Tryz.underlying168 hi hz0 hz1 hz2 rfl (by decide) ao (A.l k).t.length capo (stV (A.l k).t) rfl (unhide HNO) (stV_len _) (fun a ha j u hj => unhide HCE a ha j u hj) ⟨w.heap.size, 0, none⟩ 1 1 [.int .i64 (q : Int), .int .u64 v] rfl rfl (new_two w q v) (two_one q v) (by omega) (by unfold maxLen; omega) (by omega) ?_
      intro v' X hown hgrow
      obtain ⟨g', o', cap', rfl, hbase, hRX⟩ := row_new hown
      have HRX := hide hRX
      clear hown hRX
      have hbase' : w.heap.size ≤ g' := by
        have h1 : (w.alloc (.cells #[.int .i64 (q : Int), .int .u64 v] 174)).heap.size ≤ g' := hbase
        simp at h1; omega
      have hgc : g' ≠ c := by have := (unhide H).lt c (unhide H).fc; omega
      have HKX : Hid (Keeps (fun x => (cs k).blk = some x) w X) := Keeps.grown (((Keeps.refl _ _).alloc _).drew.drew) hgrow (fun k hk => by simp at hk)
      have hgb : Hid (∀ x, some g' = some x → (cs k).blk = some x ∨ w.heap.size ≤ x) := fun x hx => Or.inr (by simp at hx; omega)
      have hS2 : X.cell? ⟨Bw, 0, none⟩ = some (.int .i64 q) ∧ X.cell? ⟨Bv, 0, none⟩ = some (.int .u64 v) :=
        ⟨(unhide HKX).cellOf cw (fun e => hBw ((unhide H).ap k hk _ e).2.2), (unhide HKX).cellOf cv (fun e => hBv ((unhide H).ap k hk _ e).2.2)⟩
      have HBX : Hid (Blk X c (A.n * 25) 170 (encF cs)) := (unhide H).bl.keeps (unhide HKX) fun e => ((unhide H).ap k hk _ e).2.1 rfl
      clear hgrow hbase hbase'
      refine hK.out _ _ hS2 (fun hNew => ?_)
      clear hK K hS2 hi hz0 hz1 hz2 i0
      have hHeld := hNew
      clear hNew
      simp only [Act.put, List.setIfInBounds_toArray]
      refine take_at 10 21 (v := ?_) rfl rfl (by kernel_rfl) (by kernel_rfl) (by kernel_rfl) (Or.inl ⟨by rfl, ?_⟩) hHeld ?_
      rotate_left
      · intro w hSw; go_simp; with_reducible rfl
      simp only [Act.put, List.setIfInBounds_toArray, List.set_cons_zero, List.set_cons_succ]
      refine take_at 11 22 (v := ?_) rfl rfl (by kernel_rfl) (by kernel_rfl) (by kernel_rfl) (Or.inl ⟨by rfl, ?_⟩) hHeld ?_
      rotate_left
      · intro w hSw; go_simp; with_reducible rfl
      simp only [Act.put, List.setIfInBounds_toArray, List.set_cons_zero, List.set_cons_succ]
      refine wpAnyH_ready (rs := [12]) (by kernel_rfl) (by simp) ?_
      refine AllReadyH.cons rfl (fun K hK => ?_) AllReadyH.nil
      have xc : X.cell? ⟨c, k * 25 + 16, none⟩ = some (encF cs (k * 25 + 16)) := (unhide HBX).cell _ (by omega)
      have xf : X.frozen? ⟨c, k * 25 + 16, none⟩ = false := (unhide HBX).free _
      go_simp
      have hS3 : (X.setCell ⟨c, k * 25 + 16, none⟩ (.slice (some ⟨g', o', none⟩) ((A.l k).t.length + 1) cap')).cell? ⟨Bw, 0, none⟩ = some (.int .i64 q) ∧ (X.setCell ⟨c, k * 25 + 16, none⟩ (.slice (some ⟨g', o', none⟩) ((A.l k).t.length + 1) cap')).cell? ⟨Bv, 0, none⟩ = some (.int .u64 v) :=
        ⟨(World.cell?_setCell_far _ _ _ _ (Ne.symm (unhide hbw))).trans hHeld.1, (World.cell?_setCell_far _ _ _ _ (Ne.symm (unhide hbv))).trans hHeld.2⟩
      refine hK.out _ _ hS3 (fun hNew => ?_)
      clear hK K
      refine wpAnyH_done (by kernel_rfl) ?_ _
      refine NoPanic.normal ?_
      clear hNew hHeld xc xf
      obtain ⟨yw, yv⟩ := hS3
      have HBY : Hid (Blk (X.setCell ⟨c, k * 25 + 16, none⟩ (.slice (some ⟨g', o', none⟩) ((A.l k).t.length + 1) cap')) c (A.n * 25) 170 (upd (encF cs) (k * 25 + 16) (.slice (slot (some (g', o'))) ((cs k).l.t.length + 1) cap'))) := by
        rw [(unhide H).ln k]; exact (unhide HBX).set _ _
      have HKY : Hid (Keeps (fun x => x = c ∨ (cs k).blk = some x) w (X.setCell ⟨c, k * 25 + 16, none⟩ (.slice (some ⟨g', o', none⟩) ((A.l k).t.length + 1) cap'))) :=
        Keeps.setCell (F := fun x => x = c ∨ (cs k).blk = some x) (p := ⟨c, k * 25 + 16, none⟩) ((unhide HKX).mono fun _ _ h => Or.inr h) (Or.inl rfl) _
      have HRY : Hid (Row 174 (X.setCell ⟨c, k * 25 + 16, none⟩ (.slice (some ⟨g', o', none⟩) ((A.l k).t.length + 1) cap')) ⟨(A.l k).store q v, some (g', o'), cap'⟩) :=
        (unhide HRX).keeps (F := (· = c)) (Keeps.setCell (F := (· = c)) (p := ⟨c, k * 25 + 16, none⟩) (Keeps.refl _ _) rfl _) fun g hg e => by simp [Cel.blk] at hg; exact hgc (hg.trans e)
      generalize X.setCell ⟨c, k * 25 + 16, none⟩ (.slice (some ⟨g', o', none⟩) ((A.l k).t.length + 1) cap') = Y at *
      clear HBX HKX HRX cm cl cw cv c0 cc HS1
      have yc : Y.cell? ⟨c, k * 25 + 8 + q, none⟩ = some (upd (encF cs) (k * 25 + 16) (.slice (slot (some (g', o'))) ((cs k).l.t.length + 1) cap') (k * 25 + 8 + q)) := (unhide HBY).cell _ (by omega)
      have yf : Y.frozen? ⟨c, k * 25 + 8 + q, none⟩ = false := (unhide HBY).free _
      generalize upd (encF cs) (k * 25 + 16) (.slice (slot (some (g', o'))) ((cs k).l.t.length + 1) cap') (k * 25 + 8 + q) = old at *
      have q0 : (0 : Int) ≤ (q : Int) := by omega
      have q8 : (q : Int) < 8 := by omega
      go_wp2
      go_region
      go_wp2
      go_end0
      exact ⟨rfl, store_end (unhide H) k q hk hq v g' o' cap' (unhide HBY) (unhide HKY) (unhide HRY) (unhide hgb)⟩

end Go.Proofs.YtiafhcgaikapcaaGreat


/-
  What the closures of Flush and Fence do to a memory.
-/
namespace Go.Proofs.YtiafhcgaikapcaaGreat
open Go.ChangeShapes Go.WideShapes Go.ChangeAt Go.RowKit Go.Joins
set_option linter.unusedVariables false
set_option linter.unusedSimpArgs false

/-- One line is another one, its stores in the block where they were. -/
theorem Rep.line_same {w w' : World} {F : Nat → Prop} {b c : Nat} {A : Mm} {cs : Nat → Cel} (h : Rep w F b A c cs) (k : Nat) (hk : k < A.n) (C' : Cel) (hK : Keeps (· = c) w w')
    (hbl : Blk w' c (A.n * 25) 170 (putC (encF cs) (k * 25) C')) (hrow : Row 174 w' C') (hblk : ∀ g, C'.blk = some g → (cs k).blk = some g) :
    Rep w' F b ⟨A.n, upd A.l k C'.l, A.on, A.fuse, A.steps⟩ c (upd cs k C') := by
  have h1 := h.line k hk C' hK (fun x hx => Or.inl hx) hbl hrow (fun g hg => Or.inl (hblk g hg))
  exact h1.more (fun x hx => hx.elim id fun e => (h.ap k hk x (hblk x e)).2.2) (fun x hx => h1.lt x (Or.inl hx))

theorem Row.of_t {T : TypeId} {w : World} {C C' : Cel} (h : Row T w C) (h1 : C'.ad = C.ad) (h2 : C'.cap = C.cap) (h3 : C'.l.t = C.l.t) : Row T w C' := by
  unfold Row at *
  rw [h1, h2, h3]
  rcases h with h | ⟨g, off, cur, a1, a2, a3, a4, a5, a6⟩
  · exact Or.inl h
  · exact Or.inr ⟨g, off, cur, a1, a2, a3, a4, a5, fun j hj => by
      have := a6 j hj
      simpa [h3] using this⟩
theorem put_flush (cs : Nat → Cel) (k q : Nat) (hq : q < 8) (i : Nat) :
    upd (encF cs) (k * 25 + 17 + q) (.int .i64 ((cs k).l.t.length : Int)) i = putC (encF cs) (k * 25) ⟨(cs k).l.flush q, (cs k).ad, (cs k).cap⟩ i := by
  unfold putC
  by_cases h1 : i = k * 25 + 17 + q
  · subst h1
    rw [upd_same, if_pos (by omega), show k * 25 + 17 + q - k * 25 = 17 + q by omega]
    simp [encAt, show ¬ (17 + q < 8) by omega, show ¬ (17 + q < 16) by omega, show ¬ (17 + q = 16) by omega, Ln.flush, upd]
  · rw [upd_other _ _ _ _ h1]
    by_cases h3 : k * 25 ≤ i ∧ i < k * 25 + 25
    · rw [if_pos h3]
      obtain ⟨j, rfl⟩ : ∃ j, i = k * 25 + j := ⟨i - k * 25, by omega⟩
      rw [encF_at _ _ _ (by omega), show k * 25 + j - k * 25 = j by omega]
      unfold encAt
      by_cases h4 : j < 8
      · rw [if_pos h4, if_pos h4]; rfl
      · by_cases h5 : j < 16
        · rw [if_neg h4, if_neg h4, if_pos h5, if_pos h5]; rfl
        · by_cases h6 : j = 16
          · subst h6; rfl
          · rw [if_neg h4, if_neg h4, if_neg h5, if_neg h5, if_neg h6, if_neg h6]
            show _ = Value.int _ ((upd (cs k).l.f q _ (j - 17) : Nat) : Int)
            rw [upd_other _ _ _ _ (by omega)]
    · rw [if_neg h3]

theorem flushDo {w : World} {F : Nat → Prop} {b c : Nat} {A : Mm} {cs : Nat → Cel} (h : Rep w F b A c cs) (k q : Nat) (hk : k < A.n) (hq : q < 8) (hlen : (A.l k).t.length ≤ 1000000) (hn : A.n ≤ 1024)
    (Bm Bl Bc : Nat) (cm : w.cell? ⟨Bm, 0, none⟩ = some (.pointer (some ⟨b, 0, none⟩))) (cl : w.cell? ⟨Bl, 0, none⟩ = some (.int .i64 k)) (cw : w.cell? ⟨Bc, 0, none⟩ = some (.int .i64 q)) :
    Calls Tryz.prog 178 #[.pointer (some ⟨Bm, 0, none⟩), .pointer (some ⟨Bl, 0, none⟩), .pointer (some ⟨Bc, 0, none⟩)] w (Went F w b c ⟨A.n, upd A.l k ((A.l k).flush q), A.on, A.fuse, A.steps⟩ (.tuple #[])) := by
  obtain ⟨K0, c0⟩ := h.c0
  have cc := h.lenc k hk
  have cq := h.cel k hk (17 + q) (by omega)
  have fq := h.bl.free (k * 25 + 17 + q)
  rw [← Nat.add_assoc] at cq
  generalize encAt (cs k) (17 + q) = old at *
  have hk' : (k : Int) < (A.n : Int) := by omega
  have q0 : (0 : Int) ≤ (q : Int) := by omega
  have q8 : (q : Int) < 8 := by omega
  have H := hide h
  clear h
  go_enter Tryz.func178, Tryz.ntmps178
  go_wp2
  go_region
  go_wp2
  go_region
  go_wp2
  go_end0
  refine ⟨rfl, F, _, (unhide H).line_same k hk ⟨(A.l k).flush q, (cs k).ad, (cs k).cap⟩ (Keeps.setCell (F := (· = c)) (p := ⟨c, k * 25 + 17 + q, none⟩) (Keeps.refl _ _) rfl _).drew.drew ?_ ?_ (fun g hg => hg), (Keeps.setCell (F := F) (p := ⟨c, k * 25 + 17 + q, none⟩) (Keeps.refl _ _) (unhide H).fc _).drew.drew, Grew.refl _ _⟩
  · refine (((unhide H).bl.set (k * 25 + 17 + q) _).drew.drew).ext fun i _ => ?_
    rw [← (unhide H).ln k]; exact put_flush cs k q hq i
  · have hr := ((unhide H).row k hk).keeps (F := (· = c)) (Keeps.setCell (F := (· = c)) (p := ⟨c, k * 25 + 17 + q, none⟩) (Keeps.refl _ _) rfl (.int .i64 ((A.l k).t.length : Int))).drew.drew fun x hx e => ((unhide H).ap k hk x hx).2.1 e
    exact hr.of_t rfl rfl (by rw [(unhide H).ln k]; rfl)

/-- The lines of which the first k are settled by a core's Fence. -/
def fenceTo (A : Mm) (q k : Nat) : Nat → Ln := fun i => if i < k then (A.l i).settle ((A.l i).f q) else A.l i

theorem Rep.lines {w : World} {F : Nat → Prop} {b c : Nat} {A A' : Mm} {cs : Nat → Cel} (h : Rep w F b A c cs) (hn : A'.n = A.n) (h1 : A'.on = A.on) (h2 : A'.fuse = A.fuse) (h3 : A'.steps = A.steps) (hl : ∀ i, i < A.n → A'.l i = A.l i) :
    ∃ cs', Rep w F b A' c cs' := by
  refine ⟨fun i => if i < A.n then cs i else ⟨A'.l i, none, 0⟩, ?_, ?_, ?_, ?_, h.bc, ?_, ?_, h.fb, h.fc, h.lt⟩
  · obtain ⟨K, hd⟩ := h.hd
    have : headOf A' c K = headOf A c K := by unfold headOf; rw [hn, h1, h2, h3]
    exact ⟨K, by rw [this]; exact hd⟩
  · rw [hn]
    refine h.bl.ext fun i hi => ?_
    unfold encF
    simp only [show i / 25 < A.n by omega, if_true]
  · intro i
    by_cases hi : i < A.n
    · simp only [hi, if_true]; rw [h.ln i, hl i hi]
    · simp only [hi, if_false]
  · intro i hi
    rw [hn] at hi
    simp only [hi, if_true]; exact h.row i hi
  · intro i hi g hg
    rw [hn] at hi
    simp only [hi, if_true] at hg; exact h.ap i hi g hg
  · intro i j hi hj hij g hg
    rw [hn] at hi hj
    simp only [hi, hj, if_true] at hg ⊢; exact h.dj i j hi hj hij g hg

theorem fenceDo {w : World} {F : Nat → Prop} {b c : Nat} {A : Mm} {cs : Nat → Cel} (h : Rep w F b A c cs) (q : Nat) (hq : q < 8) (hok : ∀ i, (A.l i).ok) (hlen : ∀ i, (A.l i).t.length ≤ 1000000) (hn : A.n ≤ 1024)
    (Bm Bc : Nat) (cm : w.cell? ⟨Bm, 0, none⟩ = some (.pointer (some ⟨b, 0, none⟩))) (cw : w.cell? ⟨Bc, 0, none⟩ = some (.int .i64 q)) (hBm : ¬ F Bm) (hBc : ¬ F Bc) :
    Calls Tryz.prog 179 #[.pointer (some ⟨Bm, 0, none⟩), .pointer (some ⟨Bc, 0, none⟩)] w (Went F w b c ⟨A.n, fun i => (A.l i).settle ((A.l i).f q), A.on, A.fuse, A.steps⟩ (.tuple #[])) := by
  obtain ⟨K0, c0⟩ := h.c0
  have H := hide h
  clear h
  go_enter Tryz.func179, Tryz.ntmps179
  go_wp2
  go_loopw [9] (fun i wr => ∃ k : Nat, k ≤ A.n ∧ i = .int .i64 k ∧ ∃ cr, Rep wr F b ⟨A.n, fenceTo A q k, A.on, A.fuse, A.steps⟩ c cr ∧ Keeps F w wr) (fun i _ => A.n - (intOf i).toNat)
  case atStart =>
    refine ⟨0, by omega, rfl, cs, ?_, Keeps.refl _ _⟩
    have : fenceTo A q 0 = A.l := by funext i; simp [fenceTo]
    rw [this]; exact unhide H
  case round =>
    clear c0
    obtain ⟨k, hk, rfl, cr, hr, hkp⟩ := hrel
    obtain ⟨K0, c0⟩ := hr.c0
    have cm1 := hkp.cellOf cm hBm
    have cw1 := hkp.cellOf cw hBc
    by_cases hlt : k < A.n
    · have hlk : (cr k).l = A.l k := by rw [hr.ln k]; simp [fenceTo]
      have cf := hr.cel k hlt (17 + q) (by omega)
      rw [← Nat.add_assoc, show encAt (cr k) (17 + q) = .int .i64 ((A.l k).f q : Nat) by simp [encAt, hlk, show ¬ (17 + q < 8) by omega, show ¬ (17 + q < 16) by omega, show ¬ (17 + q = 16) by omega]] at cf
      have hcb : (cr k).blk ≠ some c := fun e => (hr.ap k hlt c e).2.1 rfl
      have HC : Hid (Calls Tryz.prog 98 #[.pointer (some ⟨c, k * 25, none⟩), .int .i64 ((A.l k).f q : Nat)] wr.drew fun e w' => e = .returned (.tuple #[]) ∧ Blk w' c (A.n * 25) 170 (putC (encF cr) (k * 25) ((cr k).settle ((A.l k).f q))) ∧ Keeps (· = c) wr.drew w') :=
        settle_any (cr k) (by rw [hlk]; exact hok k) _ (by rw [hlk]; exact (hok k).2.2 q) (by rw [hlk]; have := hlen k; omega) c (k * 25) (A.n * 25) (encF cr) wr.drew (by omega)
          hr.bl.drew (fun j hj => encF_at _ _ _ hj) ((hr.row k hlt).keeps (F := fun _ => False) (Keeps.refl _ _).drew fun _ _ => id) hcb
      have hbc : Bc ≠ c := fun e => hBc (e ▸ hr.fc)
      have HNX : Hid (∀ w', Blk w' c (A.n * 25) 170 (putC (encF cr) (k * 25) ((cr k).settle ((A.l k).f q))) → Keeps (· = c) wr.drew w' → ∃ cr', Rep w' F b ⟨A.n, fenceTo A q (k + 1), A.on, A.fuse, A.steps⟩ c cr' ∧ Keeps F w w') := fun w' hb' hk' => by
        have hkd : Keeps (· = c) wr w' := (Keeps.refl (· = c) wr).drew.trans' hk'
        refine ⟨upd cr k ((cr k).settle ((A.l k).f q)), ?_, hkp.trans' (hkd.mono fun x _ e => by rw [e]; exact hr.fc)⟩
        have := hr.line_same k hlt ((cr k).settle ((A.l k).f q)) hkd hb' (((hr.row k hlt).settle _ (by rw [hlk]; exact (hok k).2.2 q)).keeps hkd fun g hg e => by rw [Cel.settle_blk] at hg; exact (hr.ap k hlt g hg).2.1 e) (fun g hg => by rw [Cel.settle_blk] at hg; exact hg)
        have e : upd (fenceTo A q k) k ((cr k).settle ((A.l k).f q)).l = fenceTo A q (k + 1) := by
          funext i
          show upd (fenceTo A q k) k ((cr k).l.settle ((A.l k).f q)) i = _
          rw [hlk]
          unfold fenceTo
          by_cases hi : i = k
          · subst hi; rw [upd_same, if_pos (by omega)]
          · rw [upd_other _ _ _ _ hi]
            by_cases h2 : i < k
            · rw [if_pos h2, if_pos (by omega)]
            · rw [if_neg h2, if_neg (by omega)]
        rw [← e]; exact this
      clear hr hkp
      go_wp2
      refine wp_region_noPanic ?_
      refine wp_region_held_drew (S := fun w' => w'.cell? ⟨Bc, 0, none⟩ = some (.int .i64 q)) (by kernel_rfl) cw1 (fun hHeld => ?_)
      have q0 : (0 : Int) ≤ (q : Int) := by omega
      have q8 : (q : Int) < 8 := by omega
      refine take_at 0 18 (v := ?_) rfl rfl (by kernel_rfl) (by kernel_rfl) (by kernel_rfl) (Or.inl ⟨by rfl, ?_⟩) hHeld ?_
      rotate_left
      · intro w hSw; go_simp; with_reducible rfl
      simp only [Act.put, List.setIfInBounds_toArray, List.set_cons_zero, List.set_cons_succ]
      refine take_at 1 19 (v := ?_) rfl rfl (by kernel_rfl) (by kernel_rfl) (by kernel_rfl) (Or.inl ⟨by rfl, ?_⟩) hHeld ?_
      rotate_left
      · intro w hSw; go_simp; with_reducible rfl
      simp only [Act.put, List.setIfInBounds_toArray, List.set_cons_zero, List.set_cons_succ]
      refine take_at 2 20 (v := ?_) rfl rfl (by kernel_rfl) (by kernel_rfl) (by kernel_rfl) (Or.inl ⟨by rfl, ?_⟩) hHeld ?_
      rotate_left
      · intro w hSw; go_simp; with_reducible rfl
      simp only [Act.put, List.setIfInBounds_toArray, List.set_cons_zero, List.set_cons_succ]
      refine take_at 3 21 (v := ?_) rfl rfl (by kernel_rfl) (by kernel_rfl) (by kernel_rfl) (Or.inl ⟨by rfl, ?_⟩) hHeld ?_
      rotate_left
      · intro w hSw; go_simp; with_reducible rfl
      simp only [Act.put, List.setIfInBounds_toArray, List.set_cons_zero, List.set_cons_succ]
      refine take_at 4 22 (v := ?_) rfl rfl (by kernel_rfl) (by kernel_rfl) (by kernel_rfl) (Or.inl ⟨by rfl, ?_⟩) hHeld ?_
      rotate_left
      · intro w hSw; go_simp; with_reducible rfl
      simp only [Act.put, List.setIfInBounds_toArray, List.set_cons_zero, List.set_cons_succ]
      refine take_at 5 23 (v := ?_) rfl rfl (by kernel_rfl) (by kernel_rfl) (by kernel_rfl) (Or.inl ⟨by rfl, ?_⟩) hHeld ?_
      rotate_left
      · intro w hSw; go_simp; with_reducible rfl
      simp only [Act.put, List.setIfInBounds_toArray, List.set_cons_zero, List.set_cons_succ]
      refine wpAnyH_ready (rs := [6]) (by kernel_rfl) (by simp) ?_
      refine AllReadyH.cons rfl (fun K hK => ?_) AllReadyH.nil
      go_simp
      refine hK.out _ _ hHeld (fun hNew => ?_)
      clear hK K hNew
      refine wpAnyH_ready (rs := [7]) (by kernel_rfl) (by simp) ?_
      refine AllReadyH.cons rfl (fun K hK => ?_) AllReadyH.nil
      go_simp
      refine (unhide HC).mono ?_
      rintro e w' ⟨rfl, hb', hk'⟩
      go_wp2_with fail
      refine hK.out _ _ (hk'.cellOf (w := wr.drew) cw1 hbc) (fun hNew => ?_)
      clear hK K hHeld hNew
      refine wpAnyH_done (by kernel_rfl) ?_ _
      refine NoPanic.normal ?_
      obtain ⟨cr', hr', hkp'⟩ := unhide HNX w' hb' hk'
      have HR' := hide hr'
      have HK' := hide hkp'
      clear hb' hk' hr' hkp' HC HNX c0 cm1 cw1 cf
      go_wp2
      go_roundw
      case rel => exact ⟨k + 1, by omega, by go_num, cr', unhide HR', unhide HK'⟩
      case measure => simp [intOf]; omega
    · obtain rfl : k = A.n := by omega
      have HR := hide hr
      have HK := hide hkp
      clear hr hkp
      go_wp2
      go_end0
      obtain ⟨cr', hr'⟩ := (unhide HR).lines (A' := ⟨A.n, fun i => (A.l i).settle ((A.l i).f q), A.on, A.fuse, A.steps⟩) rfl rfl rfl rfl (fun i hi => by simp [fenceTo, show i < A.n from hi])
      exact ⟨rfl, F, cr', hr', unhide HK, Grew.refl _ _⟩

end Go.Proofs.YtiafhcgaikapcaaGreat


/-
  What Store, Flush and Fence do: a step that is done, or the power is off.
-/
namespace Go.Proofs.YtiafhcgaikapcaaGreat
open Go.ChangeShapes Go.WideShapes Go.ChangeAt Go.RowKit Go.Joins
set_option linter.unusedVariables false
set_option linter.unusedSimpArgs false

theorem may_iff (A : Mm) : A.may = true ↔ A.on = true ∧ A.fuse ≠ 0 := by simp [Mm.may]

theorem step_any {w : World} {F : Nat → Prop} {b c : Nat} {A : Mm} {cs : Nat → Cel} (h : Rep w F b A c cs) (hs : A.steps ≤ 1000000) (hf0 : -1 ≤ A.fuse) (hf1 : A.fuse ≤ 9223372036854775807) (f : Nat) (caps : Array Value) (l' : Nat → Ln) (hcall : ∀ W : World, Sem.run Tryz.prog (callFunc f caps) W = .ok (.enter f caps) W)
    (hdo : A.may = true → Calls Tryz.prog f caps w (Went F w b c ⟨A.n, l', A.on, A.fuse, A.steps⟩ (.tuple #[]))) :
    Calls Tryz.prog 134 #[.pointer (some ⟨b, 0, none⟩), .func (.func f) #[] caps] w (Went F w b c (A.step l') (.int .i64 A.err)) := by
  have c1 := h.c1
  have c2 := h.c2
  have f1 := h.fr 1
  have H := hide h
  clear h
  by_cases hz : A.fuse = 0
  · have hm : A.may = false := by simp [Mm.may, hz]
    rw [hz] at c2
    have HM := hide hm
    have HZ := hide hz
    clear hm hz hdo
    go_enter Tryz.func134, Tryz.ntmps134
    go_wp2
    go_ret
    unfold Mm.err Mm.step
    rw [unhide HM]
    refine ⟨rfl, F, cs, ?_, Keeps.setCell (F := F) (p := ⟨b, 1, none⟩) (Keeps.refl _ _) (unhide H).fb _, Grew.refl _ _⟩
    exact (unhide H).head (Keeps.setCell (F := (· = b)) (p := ⟨b, 1, none⟩) (Keeps.refl _ _) rfl _) _ _ _ (head_set (unhide H).hd 1 _ _ fun _ => rfl)
  · by_cases hon : A.on = true
    · have hm : A.may = true := by simp [Mm.may, hz, hon]
      have HD := hide (hdo hm)
      rw [hon] at c1
      have HM := hide hm
      have HON := hide hon
      have hz' : (A.fuse == 0) = false := by simp [hz]
      clear hm hon hdo
      go_enter Tryz.func134, Tryz.ntmps134
      go_wp2_with fail
      refine (unhide HD).mono ?_
      rintro e w1 ⟨rfl, F1, cs1, h1, hk1, hg1⟩
      have d2 := h1.c2
      have d3 := h1.c3
      have g2 := h1.fr 2
      have g3 := h1.fr 3
      simp only at d2 d3
      have H1 := hide h1
      have HK1 := hide hk1
      have HG1 := hide hg1
      clear h1 hk1 hg1
      by_cases hp : 0 < A.fuse
      · go_wp2
        go_ret
        unfold Mm.err Mm.step
        rw [unhide HM]
        refine ⟨rfl, F1, cs1, ?_, (unhide HK1).trans (unhide HG1) (Keeps.setCell (F := F1) (p := ⟨b, 2, none⟩) (Keeps.setCell (F := F1) (p := ⟨b, 3, none⟩) (Keeps.refl _ _) (unhide H1).fb _) (unhide H1).fb _), unhide HG1⟩
        have hh := (unhide H1).head (Keeps.setCell (F := (· = b)) (p := ⟨b, 2, none⟩) (Keeps.setCell (F := (· = b)) (p := ⟨b, 3, none⟩) (Keeps.refl _ _) rfl _) rfl _) A.on (A.fuse - 1) (A.steps + 1) (head_set (head_set (unhide H1).hd 3 (.int .i64 ((A.steps : Int) + 1)) ⟨A.n, l', A.on, A.fuse, A.steps + 1⟩ (fun _ => by simp [headOf])) 2 (.int .i64 (A.fuse - 1)) _ fun _ => rfl)
        simp only [if_true, Mm.stepped, gt_iff_lt, hp]; exact hh
      · go_wp2
        go_ret
        unfold Mm.err Mm.step
        rw [unhide HM]
        refine ⟨rfl, F1, cs1, ?_, (unhide HK1).trans (unhide HG1) (Keeps.setCell (F := F1) (p := ⟨b, 3, none⟩) (Keeps.refl _ _) (unhide H1).fb _), unhide HG1⟩
        have hh := (unhide H1).head (Keeps.setCell (F := (· = b)) (p := ⟨b, 3, none⟩) (Keeps.refl _ _) rfl _) A.on A.fuse (A.steps + 1) (head_set (unhide H1).hd 3 (.int .i64 ((A.steps : Int) + 1)) ⟨A.n, l', A.on, A.fuse, A.steps + 1⟩ (fun _ => by simp [headOf]))
        have hp' : ¬ (0 < A.fuse) := by omega
        simp only [if_true, Mm.stepped, gt_iff_lt, hp', if_false]; exact hh
    · have hm : A.may = false := by simp [Mm.may, hon]
      have hon' : A.on = false := by simpa using hon
      rw [hon'] at c1
      have HM := hide hm
      have HON := hide hon'
      have hz' : (A.fuse == 0) = false := by simp [hz]
      clear hm hon hon' hdo
      go_enter Tryz.func134, Tryz.ntmps134
      go_wp2
      go_ret
      unfold Mm.err Mm.step
      rw [unhide HM]
      refine ⟨rfl, F, cs, ?_, Keeps.refl _ _, Grew.refl _ _⟩
      have := unhide H
      have e : A.off = A := by have h1 := unhide HON; unfold Mm.off; rw [← h1]
      simp only [Bool.false_eq_true, if_false, e]; exact this

/-! ### Store, Flush, Fence -/
theorem cell_box (w : World) (v : Value) (t : TypeId) (n : Nat) (hn : n = w.heap.size) : (w.alloc (.cells #[v] t)).cell? ⟨n, 0, none⟩ = some v := by subst hn; rw [cell_of_block (heap_new w _)]; rfl
theorem cell_under {w : World} {b o : Nat} {v : Value} (h : w.cell? ⟨b, o, none⟩ = some v) (ob : Obj) : (w.alloc ob).cell? ⟨b, o, none⟩ = some v :=
  (World.cell?_alloc_some w _ _ (by rw [h]; rfl)).trans h
theorem Rep.fresh {w : World} {F : Nat → Prop} {b c : Nat} {A : Mm} {cs : Nat → Cel} (h : Rep w F b A c cs) (j : Nat) : ¬ F (w.heap.size + j) := fun hf => by have := h.lt _ hf; omega

theorem store_any {w : World} {F : Nat → Prop} {b c : Nat} {A : Mm} {cs : Nat → Cel} (h : Rep w F b A c cs) (hok : A.ok 1000) (z y : Int) (k q : Nat) (ez : z = (k : Int)) (ey : y = (q : Int)) (hk : k < A.n) (hq : q < 8) (v : Int) :
    Calls Tryz.prog 72 #[.pointer (some ⟨b, 0, none⟩), .int .i64 z, .int .i64 y, .int .u64 v] w (Went F w b c (A.store k q v) (.int .i64 A.err)) := by
  have H := hide h
  obtain ⟨o1, o2, o3, o4, o5, o6, o7⟩ := hok
  have D1 : decide ((0 : Int) ≤ z ∧ z < (A.n : Int)) = true := by simp; omega
  have D2 : decide ((0 : Int) ≤ y ∧ y < 8) = true := by simp; omega
  have EZ := hide ez
  have EY := hide ey
  clear h ez ey
  have H1 := hide ((unhide H).alloc (.cells #[.pointer (some ⟨b, 0, none⟩)] 26) |>.alloc (.cells #[.int .i64 z] 3) |>.alloc (.cells #[.int .i64 y] 3) |>.alloc (.cells #[.int .u64 v] 52))
  have HK : Hid (Keeps F w ((((w.alloc (.cells #[.pointer (some ⟨b, 0, none⟩)] 26)).alloc (.cells #[.int .i64 z] 3)).alloc (.cells #[.int .i64 y] 3)).alloc (.cells #[.int .u64 v] 52))) := (Keeps.refl F w).alloc _ |>.alloc _ |>.alloc _ |>.alloc _
  go_enter Tryz.func72, Tryz.ntmps72
  go_wp2_with fail
  refine (isLine_any (unhide H1) _).mono ?_
  rintro e w1 ⟨rfl, rfl⟩
  rw [D1]
  go_wp2_with fail
  refine (isWord_any _ _).mono ?_
  rintro e w1 ⟨rfl, rfl⟩
  rw [D2]
  go_wp2_with fail
  refine (step_any (unhide H1) (by omega) o5 o6 135 _ (upd A.l k ((A.l k).store q v)) (fun W => by kernel_rfl) (fun _ =>
    storeDo (unhide H1) k q hk hq v (by have := o4 k; omega) o2 w.heap.size (w.heap.size + 1) (w.heap.size + 1 + 1) (w.heap.size + 1 + 1 + 1) ?_ ?_ ?_ ?_ ?_ ?_)).mono ?_
  · exact cell_under (cell_under (cell_under (cell_box w _ _ _ rfl) _) _) _
  · rw [← unhide EZ]; exact cell_under (cell_under (cell_box _ _ _ _ (by simp)) _) _
  · rw [← unhide EY]; exact cell_under (cell_box _ _ _ _ (by simp)) _
  · exact cell_box _ _ _ _ (by simp)
  · exact (unhide H).fresh 2
  · exact (unhide H).fresh 3
  rintro e w' ⟨rfl, F', cs', hr, hkp, hg⟩
  have HR := hide hr
  have HKP := hide hkp
  have HG := hide hg
  clear hr hkp hg
  go_wp2_with fail
  go_ret
  exact ⟨rfl, F', cs', unhide HR, (unhide HK).trans' (unhide HKP), fun x hx => (unhide HG x hx).imp id fun h => Nat.le_trans (unhide HK).size h⟩

theorem store_bad {w : World} {F : Nat → Prop} {b c : Nat} {A : Mm} {cs : Nat → Cel} (h : Rep w F b A c cs) (z y v : Int) (hz : ¬ ((0 ≤ z ∧ z < A.n) ∧ (0 ≤ y ∧ y < 8))) :
    Calls Tryz.prog 72 #[.pointer (some ⟨b, 0, none⟩), .int .i64 z, .int .i64 y, .int .u64 v] w (Went F w b c A (.int .i64 1)) := by
  have H := hide h
  clear h
  have H1 := hide ((unhide H).alloc (.cells #[.pointer (some ⟨b, 0, none⟩)] 26) |>.alloc (.cells #[.int .i64 z] 3) |>.alloc (.cells #[.int .i64 y] 3) |>.alloc (.cells #[.int .u64 v] 52))
  have HK : Hid (Keeps F w ((((w.alloc (.cells #[.pointer (some ⟨b, 0, none⟩)] 26)).alloc (.cells #[.int .i64 z] 3)).alloc (.cells #[.int .i64 y] 3)).alloc (.cells #[.int .u64 v] 52))) := (Keeps.refl F w).alloc _ |>.alloc _ |>.alloc _ |>.alloc _
  by_cases h1 : 0 ≤ z ∧ z < A.n
  · have h2 : ¬ (0 ≤ y ∧ y < 8) := fun h => hz ⟨h1, h⟩
    have D1 : decide ((0 : Int) ≤ z ∧ z < (A.n : Int)) = true := by simpa using h1
    have D2 : decide ((0 : Int) ≤ y ∧ y < 8) = false := by simpa using h2
    clear hz h1 h2
    go_enter Tryz.func72, Tryz.ntmps72
    go_wp2_with fail
    refine (isLine_any (unhide H1) _).mono ?_
    rintro e w1 ⟨rfl, rfl⟩
    rw [D1]
    go_wp2_with fail
    refine (isWord_any _ _).mono ?_
    rintro e w1 ⟨rfl, rfl⟩
    rw [D2]
    go_wp2_with fail
    go_ret
    exact ⟨rfl, F, cs, unhide H1, unhide HK, Grew.refl _ _⟩
  · have D1 : decide ((0 : Int) ≤ z ∧ z < (A.n : Int)) = false := by simpa using h1
    clear hz h1
    go_enter Tryz.func72, Tryz.ntmps72
    go_wp2_with fail
    refine (isLine_any (unhide H1) _).mono ?_
    rintro e w1 ⟨rfl, rfl⟩
    rw [D1]
    go_wp2_with fail
    go_ret
    exact ⟨rfl, F, cs, unhide H1, unhide HK, Grew.refl _ _⟩

theorem flush_any {w : World} {F : Nat → Prop} {b c : Nat} {A : Mm} {cs : Nat → Cel} (h : Rep w F b A c cs) (hok : A.ok 1000) (y z : Int) (q k : Nat) (ey : y = (q : Int)) (ez : z = (k : Int)) (hq : q < 8) (hk : k < A.n) :
    Calls Tryz.prog 125 #[.pointer (some ⟨b, 0, none⟩), .int .i64 y, .int .i64 z] w (Went F w b c (A.flush q k) (.int .i64 A.err)) := by
  have H := hide h
  obtain ⟨o1, o2, o3, o4, o5, o6, o7⟩ := hok
  have D1 : decide ((0 : Int) ≤ z ∧ z < (A.n : Int)) = true := by simp; omega
  have D2 : decide ((0 : Int) ≤ y ∧ y < 8) = true := by simp; omega
  have EZ := hide ez
  have EY := hide ey
  clear h ez ey
  have H1 := hide ((unhide H).alloc (.cells #[.pointer (some ⟨b, 0, none⟩)] 26) |>.alloc (.cells #[.int .i64 y] 3) |>.alloc (.cells #[.int .i64 z] 3))
  have HK : Hid (Keeps F w (((w.alloc (.cells #[.pointer (some ⟨b, 0, none⟩)] 26)).alloc (.cells #[.int .i64 y] 3)).alloc (.cells #[.int .i64 z] 3))) := (Keeps.refl F w).alloc _ |>.alloc _ |>.alloc _
  go_enter Tryz.func125, Tryz.ntmps125
  go_wp2_with fail
  refine (isCore_any _ _).mono ?_
  rintro e w1 ⟨rfl, rfl⟩
  rw [D2]
  go_wp2_with fail
  refine (isLine_any (unhide H1) _).mono ?_
  rintro e w1 ⟨rfl, rfl⟩
  rw [D1]
  go_wp2_with fail
  refine (step_any (unhide H1) (by omega) o5 o6 178 _ (upd A.l k ((A.l k).flush q)) (fun W => by kernel_rfl) (fun _ =>
    flushDo (unhide H1) k q hk hq (by have := o4 k; omega) o2 w.heap.size (w.heap.size + 1 + 1) (w.heap.size + 1) ?_ ?_ ?_)).mono ?_
  · exact cell_under (cell_under (cell_box w _ _ _ rfl) _) _
  · rw [← unhide EZ]; exact cell_box _ _ _ _ (by simp)
  · rw [← unhide EY]; exact cell_under (cell_box _ _ _ _ (by simp)) _
  rintro e w' ⟨rfl, F', cs', hr, hkp, hg⟩
  have HR := hide hr
  have HKP := hide hkp
  have HG := hide hg
  clear hr hkp hg
  go_wp2_with fail
  go_ret
  exact ⟨rfl, F', cs', unhide HR, (unhide HK).trans' (unhide HKP), fun x hx => (unhide HG x hx).imp id fun h => Nat.le_trans (unhide HK).size h⟩

theorem flush_bad {w : World} {F : Nat → Prop} {b c : Nat} {A : Mm} {cs : Nat → Cel} (h : Rep w F b A c cs) (y z : Int) (hz : ¬ ((0 ≤ y ∧ y < 8) ∧ (0 ≤ z ∧ z < A.n))) :
    Calls Tryz.prog 125 #[.pointer (some ⟨b, 0, none⟩), .int .i64 y, .int .i64 z] w (Went F w b c A (.int .i64 1)) := by
  have H := hide h
  clear h
  have H1 := hide ((unhide H).alloc (.cells #[.pointer (some ⟨b, 0, none⟩)] 26) |>.alloc (.cells #[.int .i64 y] 3) |>.alloc (.cells #[.int .i64 z] 3))
  have HK : Hid (Keeps F w (((w.alloc (.cells #[.pointer (some ⟨b, 0, none⟩)] 26)).alloc (.cells #[.int .i64 y] 3)).alloc (.cells #[.int .i64 z] 3))) := (Keeps.refl F w).alloc _ |>.alloc _ |>.alloc _
  by_cases h1 : 0 ≤ y ∧ y < 8
  · have h2 : ¬ (0 ≤ z ∧ z < A.n) := fun h => hz ⟨h1, h⟩
    have D1 : decide ((0 : Int) ≤ y ∧ y < 8) = true := by simpa using h1
    have D2 : decide ((0 : Int) ≤ z ∧ z < (A.n : Int)) = false := by simpa using h2
    clear hz h1 h2
    go_enter Tryz.func125, Tryz.ntmps125
    go_wp2_with fail
    refine (isCore_any _ _).mono ?_
    rintro e w1 ⟨rfl, rfl⟩
    rw [D1]
    go_wp2_with fail
    refine (isLine_any (unhide H1) _).mono ?_
    rintro e w1 ⟨rfl, rfl⟩
    rw [D2]
    go_wp2_with fail
    go_ret
    exact ⟨rfl, F, cs, unhide H1, unhide HK, Grew.refl _ _⟩
  · have D1 : decide ((0 : Int) ≤ y ∧ y < 8) = false := by simpa using h1
    clear hz h1
    go_enter Tryz.func125, Tryz.ntmps125
    go_wp2_with fail
    refine (isCore_any _ _).mono ?_
    rintro e w1 ⟨rfl, rfl⟩
    rw [D1]
    go_wp2_with fail
    go_ret
    exact ⟨rfl, F, cs, unhide H1, unhide HK, Grew.refl _ _⟩

theorem fence_any {w : World} {F : Nat → Prop} {b c : Nat} {A : Mm} {cs : Nat → Cel} (h : Rep w F b A c cs) (hok : A.ok 1000) (y : Int) (q : Nat) (ey : y = (q : Int)) (hq : q < 8) :
    Calls Tryz.prog 126 #[.pointer (some ⟨b, 0, none⟩), .int .i64 y] w (Went F w b c (A.fence q) (.int .i64 A.err)) := by
  have H := hide h
  obtain ⟨o1, o2, o3, o4, o5, o6, o7⟩ := hok
  have D2 : decide ((0 : Int) ≤ y ∧ y < 8) = true := by simp; omega
  have EY := hide ey
  clear h ey
  have H1 := hide ((unhide H).alloc (.cells #[.pointer (some ⟨b, 0, none⟩)] 26) |>.alloc (.cells #[.int .i64 y] 3))
  have HK : Hid (Keeps F w ((w.alloc (.cells #[.pointer (some ⟨b, 0, none⟩)] 26)).alloc (.cells #[.int .i64 y] 3))) := (Keeps.refl F w).alloc _ |>.alloc _
  go_enter Tryz.func126, Tryz.ntmps126
  go_wp2_with fail
  refine (isCore_any _ _).mono ?_
  rintro e w1 ⟨rfl, rfl⟩
  rw [D2]
  go_wp2_with fail
  refine (step_any (unhide H1) (by omega) o5 o6 179 _ (fun i => (A.l i).settle ((A.l i).f q)) (fun W => by kernel_rfl) (fun _ =>
    fenceDo (unhide H1) q hq o3 (fun i => by have := o4 i; omega) o2 w.heap.size (w.heap.size + 1) ?_ ?_ ?_ ?_)).mono ?_
  · exact cell_under (cell_box w _ _ _ rfl) _
  · rw [← unhide EY]; exact cell_box _ _ _ _ (by simp)
  · exact (unhide H).fresh 0
  · exact (unhide H).fresh 1
  rintro e w' ⟨rfl, F', cs', hr, hkp, hg⟩
  have HR := hide hr
  have HKP := hide hkp
  have HG := hide hg
  clear hr hkp hg
  go_wp2_with fail
  go_ret
  exact ⟨rfl, F', cs', unhide HR, (unhide HK).trans' (unhide HKP), fun x hx => (unhide HG x hx).imp id fun h => Nat.le_trans (unhide HK).size h⟩

theorem fence_bad {w : World} {F : Nat → Prop} {b c : Nat} {A : Mm} {cs : Nat → Cel} (h : Rep w F b A c cs) (y : Int) (hz : ¬ (0 ≤ y ∧ y < 8)) :
    Calls Tryz.prog 126 #[.pointer (some ⟨b, 0, none⟩), .int .i64 y] w (Went F w b c A (.int .i64 1)) := by
  have H := hide h
  clear h
  have H1 := hide ((unhide H).alloc (.cells #[.pointer (some ⟨b, 0, none⟩)] 26) |>.alloc (.cells #[.int .i64 y] 3))
  have HK : Hid (Keeps F w ((w.alloc (.cells #[.pointer (some ⟨b, 0, none⟩)] 26)).alloc (.cells #[.int .i64 y] 3))) := (Keeps.refl F w).alloc _ |>.alloc _
  have D1 : decide ((0 : Int) ≤ y ∧ y < 8) = false := by simpa using hz
  clear hz
  go_enter Tryz.func126, Tryz.ntmps126
  go_wp2_with fail
  refine (isCore_any _ _).mono ?_
  rintro e w1 ⟨rfl, rfl⟩
  rw [D1]
  go_wp2_with fail
  go_ret
  exact ⟨rfl, F, cs, unhide H1, unhide HK, Grew.refl _ _⟩

end Go.Proofs.YtiafhcgaikapcaaGreat


/-
  What Load and Evict do.
-/
namespace Go.Proofs.YtiafhcgaikapcaaGreat
open Go.ChangeShapes Go.WideShapes Go.ChangeAt Go.RowKit Go.Joins
set_option linter.unusedVariables false
set_option linter.unusedSimpArgs false

/-- A line by value. -/
def lnV (f : Nat → Int) : Array Value := tab 8 fun j => .int .u64 (f j)
theorem lnV_size (f : Nat → Int) : (lnV f).size = 8 := tab_size _ _
theorem lnV_one (f : Nat → Int) : (lnV f).all (·.oneCell') = true := by simp [lnV, tab, Value.oneCell']
theorem lsize : (Tryz.prog.info? 83).map (·.size) = some 8 := by kernel_rfl
theorem line_zero : Tryz.prog.built 83 [] = some (lnV fun _ => 0) := by kernel_rfl

theorem results_line {fn : Func} {p u : Tmp} {P : Program} {ty : TypeId} (h : fn.results = #[.cell p ty, .tmp u]) (tmps : Array Value) (w : World) (g : Nat) (t : TypeId) (cs : Array Value) (fr : Nat × Nat) (d : TypeDesc) (v : Value)
    (hp : tmps.getD p undef = .pointer (some ⟨g, 0, none⟩)) (hv : tmps.getD u undef = v) (hg : w.heap[g]? = some (.cells cs t fr))
    (hu : P.underlying ty = some d) (hd : (match d with | .struct _ | .array _ _ => true | _ => false) = true) (hi : (P.info? ty).map (·.size) = some cs.size) :
    (results fn tmps).run P w = .ok (.tuple #[.agg cs, v]) w := by
  rw [results_cell_tmp h, hp, hv]
  simp [asAddr, run_loadVar_row w g t ty cs fr d hg hu hd hi]

theorem load_any {w : World} {F : Nat → Prop} {b c : Nat} {A : Mm} {cs : Nat → Cel} (h : Rep w F b A c cs) (z : Int) (k : Nat) (ez : z = (k : Int)) (hk : k < A.n) (hon : A.on = true) (hn : A.n ≤ 1024) :
    Calls Tryz.prog 47 #[.pointer (some ⟨b, 0, none⟩), .int .i64 z] w (Went F w b c A (.tuple #[.agg (lnV (A.l k).has), .int .i64 0])) := by
  subst ez
  have D1 : decide ((0 : Int) ≤ (k : Int) ∧ (k : Int) < (A.n : Int)) = true := by simp; omega
  have hk' : (k : Int) < (A.n : Int) := by omega
  have HON := hide hon
  clear hon
  have hz : (#[.int .u64 0, .int .u64 0, .int .u64 0, .int .u64 0, .int .u64 0, .int .u64 0, .int .u64 0, .int .u64 0] : Array Value) = lnV fun _ => 0 := rfl
  have H := hide h
  have H1 := hide (h.alloc (.cells (lnV fun _ => 0) 83))
  have HK : Hid (Keeps F w (w.alloc (.cells (lnV fun _ => 0) 83))) := (Keeps.refl _ _).alloc _
  have HB := hide (heap_new w (.cells (lnV fun _ => 0) 83))
  have HF : Hid (¬ F w.heap.size) := h.fresh 0
  have HZ := hide hz
  clear h hz
  go_enter Tryz.func47, Tryz.ntmps47
  go_wp2_with fail
  rw [unhide HZ]
  obtain ⟨B, hB⟩ : ∃ B, B = w.heap.size := ⟨_, rfl⟩
  rw [← hB] at HB HF
  rw [← hB]
  have HBB := hide hB
  clear hB
  generalize w.alloc (.cells (lnV fun _ => 0) 83) = W at *
  refine (isLine_any (unhide H1) _).mono ?_
  rintro e w1 ⟨rfl, rfl⟩
  obtain ⟨K0, c0⟩ := (unhide H1).c0
  have c1 := (unhide H1).c1
  rw [unhide HON] at c1
  have HR := hide ((unhide H1).hasR k hk)
  have s8 : (Tryz.prog.info? 83).map (·.size) = some ((List.range 8).map fun j => Value.int .u64 ((A.l k).has j)).length := by rw [List.length_map, List.length_range]; exact lsize
  have s8' : (Tryz.prog.info? 83).map (·.size) = some (lnV (A.l k).has).size := by rw [lnV_size]; exact lsize
  rw [D1]
  go_wp2_with (first | (refine wpList_load_mid rfl 83 _ rfl c (k * 25 + 8) rfl _ _ (unhide HR) Tryz.underlying83 rfl s8 ?_) | (refine wpList_store_row rfl 83 _ _ rfl B (lnV (A.l k).has) rfl rfl _ _ (unhide HB) s8' (by rw [lnV_size, lnV_size]) (lnV_one _) ?_))
  refine bodyPost_ret (v := .tuple #[.agg (lnV (A.l k).has), .int .i64 0]) (results_line Tryz.results47 _ _ B 83 (lnV (A.l k).has) (0, 0) _ _ rfl rfl (setRow_heap _ _ _ _ _ _ (unhide HB)) Tryz.underlying83 rfl s8') rfl ?_
  exact ⟨rfl, F, cs, (unhide H1).keeps (G := (· = B)) (Keeps.setRow (F := (· = B)) (Keeps.refl _ _) (Or.inl rfl) _) (fun x hx e => unhide HF (e ▸ hx)), Keeps.setRow (unhide HK) (Or.inr (by rw [unhide HBB]; exact Nat.le_refl _)) _, Grew.refl _ _⟩

theorem load_bad {w : World} {F : Nat → Prop} {b c : Nat} {A : Mm} {cs : Nat → Cel} (h : Rep w F b A c cs) (z : Int) (hz : ¬ (0 ≤ z ∧ z < A.n)) :
    Calls Tryz.prog 47 #[.pointer (some ⟨b, 0, none⟩), .int .i64 z] w (Went F w b c A (.tuple #[.agg (lnV fun _ => 0), .int .i64 1])) := by
  have D1 : decide ((0 : Int) ≤ z ∧ z < (A.n : Int)) = false := by simpa using hz
  clear hz
  have hz : (#[.int .u64 0, .int .u64 0, .int .u64 0, .int .u64 0, .int .u64 0, .int .u64 0, .int .u64 0, .int .u64 0] : Array Value) = lnV fun _ => 0 := rfl
  have H := hide h
  have H1 := hide (h.alloc (.cells (lnV fun _ => 0) 83))
  have HK : Hid (Keeps F w (w.alloc (.cells (lnV fun _ => 0) 83))) := (Keeps.refl _ _).alloc _
  have HB := hide (heap_new w (.cells (lnV fun _ => 0) 83))
  have HF : Hid (¬ F w.heap.size) := h.fresh 0
  have HZ := hide hz
  clear h hz
  go_enter Tryz.func47, Tryz.ntmps47
  go_wp2_with fail
  rw [unhide HZ]
  obtain ⟨B, hB⟩ : ∃ B, B = w.heap.size := ⟨_, rfl⟩
  rw [← hB] at HB HF
  rw [← hB]
  have HBB := hide hB
  clear hB
  generalize w.alloc (.cells (lnV fun _ => 0) 83) = W at *
  refine (isLine_any (unhide H1) _).mono ?_
  rintro e w1 ⟨rfl, rfl⟩
  have s8' : (Tryz.prog.info? 83).map (·.size) = some (lnV fun _ => 0).size := by rw [lnV_size]; exact lsize
  rw [D1]
  go_wp2_with (first | (refine wpList_build0 rfl 83 rfl _ line_zero ?_) | (refine wpList_store_row rfl 83 _ _ rfl B (lnV fun _ => 0) rfl rfl _ _ (unhide HB) s8' (by rw [lnV_size]) (lnV_one _) ?_))
  refine bodyPost_ret (v := .tuple #[.agg (lnV fun _ => 0), .int .i64 1]) (results_line Tryz.results47 _ _ B 83 (lnV fun _ => 0) (0, 0) _ _ rfl rfl (setRow_heap _ _ _ _ _ _ (unhide HB)) Tryz.underlying83 rfl s8') rfl ?_
  exact ⟨rfl, F, cs, (unhide H1).keeps (G := (· = B)) (Keeps.setRow (F := (· = B)) (Keeps.refl _ _) (Or.inl rfl) _) (fun x hx e => unhide HF (e ▸ hx)), Keeps.setRow (unhide HK) (Or.inr (by rw [unhide HBB]; exact Nat.le_refl _)) _, Grew.refl _ _⟩

theorem load_off {w : World} {F : Nat → Prop} {b c : Nat} {A : Mm} {cs : Nat → Cel} (h : Rep w F b A c cs) (z : Int) (hz : 0 ≤ z ∧ z < A.n) (hon : A.on = false) :
    Calls Tryz.prog 47 #[.pointer (some ⟨b, 0, none⟩), .int .i64 z] w (Went F w b c A (.tuple #[.agg (lnV fun _ => 0), .int .i64 4])) := by
  have D1 : decide ((0 : Int) ≤ z ∧ z < (A.n : Int)) = true := by simpa using hz
  have HON := hide hon
  clear hz hon
  have hz : (#[.int .u64 0, .int .u64 0, .int .u64 0, .int .u64 0, .int .u64 0, .int .u64 0, .int .u64 0, .int .u64 0] : Array Value) = lnV fun _ => 0 := rfl
  have H := hide h
  have H1 := hide (h.alloc (.cells (lnV fun _ => 0) 83))
  have HK : Hid (Keeps F w (w.alloc (.cells (lnV fun _ => 0) 83))) := (Keeps.refl _ _).alloc _
  have HB := hide (heap_new w (.cells (lnV fun _ => 0) 83))
  have HF : Hid (¬ F w.heap.size) := h.fresh 0
  have HZ := hide hz
  clear h hz
  go_enter Tryz.func47, Tryz.ntmps47
  go_wp2_with fail
  rw [unhide HZ]
  obtain ⟨B, hB⟩ : ∃ B, B = w.heap.size := ⟨_, rfl⟩
  rw [← hB] at HB HF
  rw [← hB]
  have HBB := hide hB
  clear hB
  generalize w.alloc (.cells (lnV fun _ => 0) 83) = W at *
  refine (isLine_any (unhide H1) _).mono ?_
  rintro e w1 ⟨rfl, rfl⟩
  have c1 := (unhide H1).c1
  rw [unhide HON] at c1
  have s8' : (Tryz.prog.info? 83).map (·.size) = some (lnV fun _ => 0).size := by rw [lnV_size]; exact lsize
  rw [D1]
  go_wp2_with (first | (refine wpList_build0 rfl 83 rfl _ line_zero ?_) | (refine wpList_store_row rfl 83 _ _ rfl B (lnV fun _ => 0) rfl rfl _ _ (unhide HB) s8' (by rw [lnV_size]) (lnV_one _) ?_))
  refine bodyPost_ret (v := .tuple #[.agg (lnV fun _ => 0), .int .i64 4]) (results_line Tryz.results47 _ _ B 83 (lnV fun _ => 0) (0, 0) _ _ rfl rfl (setRow_heap _ _ _ _ _ _ (unhide HB)) Tryz.underlying83 rfl s8') rfl ?_
  exact ⟨rfl, F, cs, (unhide H1).keeps (G := (· = B)) (Keeps.setRow (F := (· = B)) (Keeps.refl _ _) (Or.inl rfl) _) (fun x hx e => unhide HF (e ▸ hx)), Keeps.setRow (unhide HK) (Or.inr (by rw [unhide HBB]; exact Nat.le_refl _)) _, Grew.refl _ _⟩

/-! ### Evict -/
theorem Rep.settled {w w' : World} {F : Nat → Prop} {b c : Nat} {A : Mm} {cs : Nat → Cel} (h : Rep w F b A c cs) (k : Nat) (hk : k < A.n) (n : Nat) (hn : n ≤ (A.l k).t.length) (hK : Keeps (· = c) w w')
    (hb : Blk w' c (A.n * 25) 170 (putC (encF cs) (k * 25) ((cs k).settle n))) : Rep w' F b ⟨A.n, upd A.l k ((A.l k).settle n), A.on, A.fuse, A.steps⟩ c (upd cs k ((cs k).settle n)) := by
  have := h.line_same k hk ((cs k).settle n) hK hb (((h.row k hk).settle n (by rw [h.ln k]; exact hn)).keeps hK fun g hg e => by rw [Cel.settle_blk] at hg; exact (h.ap k hk g hg).2.1 e) (fun g hg => by rw [Cel.settle_blk] at hg; exact hg)
  rw [show ((cs k).settle n).l = (A.l k).settle n by rw [← h.ln k]; rfl] at this
  exact this
theorem settle_of {w : World} {F : Nat → Prop} {b c : Nat} {A : Mm} {cs : Nat → Cel} (h : Rep w F b A c cs) (hok : A.ok 1000) (k : Nat) (hk : k < A.n) (n : Nat) (hn : n ≤ (A.l k).t.length) :
    Calls Tryz.prog 98 #[.pointer (some ⟨c, k * 25, none⟩), .int .i64 n] w fun e w' => e = .returned (.tuple #[]) ∧ Blk w' c (A.n * 25) 170 (putC (encF cs) (k * 25) ((cs k).settle n)) ∧ Keeps (· = c) w w' :=
  settle_any (cs k) (by rw [h.ln k]; exact hok.2.2.1 k) n (by rw [h.ln k]; exact hn) (by rw [h.ln k]; have := hok.2.2.2.1 k; omega) c (k * 25) (A.n * 25) (encF cs) w (by omega) h.bl (fun j hj => encF_at _ _ _ hj) (h.row k hk) (fun e => (h.ap k hk c e).2.1 rfl)


end Go.Proofs.YtiafhcgaikapcaaGreat


/-
  What (*cell).lose and Crash do.
-/
namespace Go.Proofs.YtiafhcgaikapcaaGreat
open Go.ChangeShapes Go.WideShapes Go.ChangeAt Go.RowKit Go.Joins
set_option maxRecDepth 10000
set_option linter.unusedVariables false
set_option linter.unusedSimpArgs false

theorem yieldsIf_build2 {P : Program} {ops : Array Oper} {S : World → Prop} {op : Oper} {a : Act} (hw : Region.wanted op (yielded ops a.tmps) = true) (t : TypeId) (i j : Nat) (x y : Operand) (ho : op.op = .build t #[(i, x), (j, y)])
    (u v : Value) (hx : a.eval x = u) (hy : a.eval y = v) (cs : Array Value) (hb : P.built t [(i, u), (j, v)] = some cs) : YieldsIf P ops S op (.agg cs) a :=
  Or.inl ⟨hw, fun w _ => by
    have h := run_build (P := P) w t #[(i, u), (j, v)] cs hb
    unfold execOp
    simp [ho, hx, hy, Sem.run_bind, h]⟩

def Cel.fresh (s : Nat → Int) : Cel := ⟨Ln.of s, none, 0⟩
theorem built_cell (s : Nat → Int) : Tryz.prog.built 170 [(0, .agg (lnV s)), (1, .agg (lnV s))] = some (tab 25 (encAt (Cel.fresh s))) := by kernel_rfl
theorem csize : (Tryz.prog.info? 170).map (·.size) = some 25 := by kernel_rfl

theorem encAt_one (C : Cel) (j : Nat) : (encAt C j).oneCell' = true := by
  unfold encAt
  split
  · rfl
  · split
    · rfl
    · split <;> rfl
theorem tabC_one (C : Cel) : (tab 25 (encAt C)).all (·.oneCell') = true := by
  rw [Array.all_eq_true_iff_forall_mem]
  intro v hv
  simp only [tab, List.mem_toArray, List.mem_map] at hv
  obtain ⟨j, _, rfl⟩ := hv
  exact encAt_one C j

/-- 25 cells stored at once. -/
theorem Blk.putC {w : World} {c N : Nat} {T : TypeId} {f : Nat → Value} (h : Blk w c N T f) (o : Nat) (C : Cel) : Blk (w.setCells c o (tab 25 (encAt C)).toList) c N T (putC f o C) := by
  refine (Blk.sets (tab 25 (encAt C)).toList w f o h).ext fun i _ => ?_
  have hl : (tab 25 (encAt C)).toList.length = 25 := by simp [tab]
  rw [hl]
  unfold Go.Proofs.YtiafhcgaikapcaaGreat.putC
  by_cases hi : o ≤ i ∧ i < o + 25
  · rw [if_pos hi, if_pos hi]
    have : (tab 25 (encAt C)).toList[i - o]? = some (encAt C (i - o)) := by
      have := tab_get 25 (encAt C) (i - o) (by omega)
      simpa using this
    rw [List.getD_eq_getElem?_getD, this]; rfl
  · rw [if_neg hi, if_neg hi]

theorem Keeps.setCells {F : Nat → Prop} {a : World} {c : Nat} (hc : F c ∨ a.heap.size ≤ c) (vs : List Value) : ∀ (o : Nat) (w : World), Keeps F a w → Keeps F a (w.setCells c o vs) := by
  induction vs with
  | nil => intro o w h; exact h
  | cons v r ih =>
    intro o w h
    refine ih (o + 1) _ ?_
    rcases hc with hc | hc
    · exact Keeps.setCell (p := ⟨c, o, none⟩) h hc _
    · exact Keeps.setCell_new (p := ⟨c, o, none⟩) h hc _

theorem lose_any (s : Nat → Int) (c o N : Nat) (f : Nat → Value) (w : World) (ho : o + 25 ≤ N) (hb : Blk w c N 170 f) (hf : ∀ j, j < 8 → f (o + j) = .int .u64 (s j)) :
    Calls Tryz.prog 100 #[.pointer (some ⟨c, o, none⟩)] w fun e w' => e = .returned (.tuple #[]) ∧ Blk w' c N 170 (putC f o (Cel.fresh s)) ∧ Keeps (· = c) w w' := by
  have hR : w.rangeAt c o ((List.range 8).map fun j => .int .u64 (s j)) := hb.range o 8 (by omega) _ hf
  have hT : w.there c o 25 := hb.there o 25 ho
  have s8 : (Tryz.prog.info? 83).map (·.size) = some ((List.range 8).map fun j => Value.int .u64 (s j)).length := by rw [List.length_map, List.length_range]; exact lsize
  have s25 : (Tryz.prog.info? 170).map (·.size) = some (tab 25 (encAt (Cel.fresh s))).size := by rw [tab_size]; exact csize
  have HB := hide hb
  have HT := hide hT
  have HR := hide hR
  clear hb hT hR
  go_enter Tryz.func100, Tryz.ntmps100
  go_wp2
  refine wp_region_noPanic ?_
  refine wp_region_held_drew (S := fun w' => w'.rangeAt c o ((List.range 8).map fun j => .int .u64 (s j))) (by kernel_rfl) (unhide HR) (fun hHeld => ?_)
  refine take_at 0 2 (v := ?_) rfl rfl (by kernel_rfl) (by kernel_rfl) (by kernel_rfl) (Or.inl ⟨by rfl, ?_⟩) hHeld ?_
  rotate_left
  · intro w hSw; go_simp; with_reducible rfl
  simp only [Act.put, List.setIfInBounds_toArray, List.set_cons_zero, List.set_cons_succ]
  refine take_at 1 3 (v := ?_) rfl rfl (by kernel_rfl) (by kernel_rfl) (by kernel_rfl) (Or.inl ⟨by rfl, ?_⟩) hHeld ?_
  rotate_left
  · intro w hSw; go_simp; with_reducible rfl
  simp only [Act.put, List.setIfInBounds_toArray, List.set_cons_zero, List.set_cons_succ]
  refine take_at 2 4 (v := ?_) rfl rfl (by kernel_rfl) (by kernel_rfl) (by kernel_rfl) (Or.inl ⟨by rfl, ?_⟩) hHeld ?_
  rotate_left
  · intro w hSw; go_simp; with_reducible rfl
  simp only [Act.put, List.setIfInBounds_toArray, List.set_cons_zero, List.set_cons_succ]
  refine take_at 3 5 (v := ?_) rfl rfl (by kernel_rfl) (by kernel_rfl) (by kernel_rfl) (Or.inl ⟨by rfl, ?_⟩) hHeld ?_
  rotate_left
  · intro w hSw; go_simp; with_reducible rfl
  simp only [Act.put, List.setIfInBounds_toArray, List.set_cons_zero, List.set_cons_succ]
  refine take_at 4 6 rfl rfl (by kernel_rfl) (by kernel_rfl) (by kernel_rfl) (yieldsIf_load_mid (by rfl) _ _ rfl c o rfl _ _ (fun w h => h) Tryz.underlying83 rfl s8) hHeld ?_
  simp only [Act.put, List.setIfInBounds_toArray, List.set_cons_zero, List.set_cons_succ]
  refine take_at 5 7 (v := ?_) rfl rfl (by kernel_rfl) (by kernel_rfl) (by kernel_rfl) (Or.inl ⟨by rfl, ?_⟩) hHeld ?_
  rotate_left
  · intro w hSw; go_simp; with_reducible rfl
  simp only [Act.put, List.setIfInBounds_toArray, List.set_cons_zero, List.set_cons_succ]
  refine take_at 6 8 (v := ?_) rfl rfl (by kernel_rfl) (by kernel_rfl) (by kernel_rfl) (Or.inl ⟨by rfl, ?_⟩) hHeld ?_
  rotate_left
  · intro w hSw; go_simp; with_reducible rfl
  simp only [Act.put, List.setIfInBounds_toArray, List.set_cons_zero, List.set_cons_succ]
  refine take_at 7 9 (v := ?_) rfl rfl (by kernel_rfl) (by kernel_rfl) (by kernel_rfl) (Or.inl ⟨by rfl, ?_⟩) hHeld ?_
  rotate_left
  · intro w hSw; go_simp; with_reducible rfl
  simp only [Act.put, List.setIfInBounds_toArray, List.set_cons_zero, List.set_cons_succ]
  refine take_at 8 10 rfl rfl (by kernel_rfl) (by kernel_rfl) (by kernel_rfl) (yieldsIf_load_mid (by rfl) _ _ rfl c o rfl _ _ (fun w h => h) Tryz.underlying83 rfl s8) hHeld ?_
  simp only [Act.put, List.setIfInBounds_toArray, List.set_cons_zero, List.set_cons_succ]
  refine take_at 9 11 rfl rfl (by kernel_rfl) (by kernel_rfl) (by kernel_rfl) (yieldsIf_build2 (by rfl) 170 0 1 (.tmp 6) (.tmp 10) rfl (.agg (lnV s)) (.agg (lnV s)) rfl rfl _ (built_cell s)) hHeld ?_
  simp only [Act.put, List.setIfInBounds_toArray, List.set_cons_zero, List.set_cons_succ]
  refine take_at 10 12 (v := ?_) rfl rfl (by kernel_rfl) (by kernel_rfl) (by kernel_rfl) (Or.inl ⟨by rfl, ?_⟩) hHeld ?_
  rotate_left
  · intro w hSw; go_simp; with_reducible rfl
  simp only [Act.put, List.setIfInBounds_toArray, List.set_cons_zero, List.set_cons_succ]
  refine wpAnyH_ready (rs := [11]) (by kernel_rfl) (by simp) ?_
  refine AllReadyH.cons rfl (fun K hK => ?_) AllReadyH.nil
  refine (if_pos (by rfl)).mpr ?_
  refine wp_store_mid 170 _ _ rfl c o (tab 25 (encAt (Cel.fresh s))) rfl rfl (by rw [tab_size]; exact unhide HT) s25 (tabC_one _) ?_
  have HB2 : Hid (Blk (w.drew.setCells c o (tab 25 (encAt (Cel.fresh s))).toList) c N 170 (putC f o (Cel.fresh s))) := Blk.putC (w := w.drew) (unhide HB) o _
  refine hK.out _ _ ((unhide HB2).range o 8 (by omega) _ fun j hj => ?_) (fun hNew => ?_)
  · unfold putC; rw [if_pos (by omega), show o + j - o = j by omega]; simp [encAt, hj, Cel.fresh, Ln.of]
  clear hK K hHeld hNew
  refine wpAnyH_done (by kernel_rfl) ?_ _
  refine NoPanic.normal ?_
  go_wp2_with fail
  go_end0
  exact ⟨rfl, unhide HB2, Keeps.setCells (F := (· = c)) (Or.inl rfl) _ _ _ (Keeps.refl _ _).drew⟩

/-- The lines of which the first k have crashed. -/
def crashTo (A : Mm) (keep : List Int) (k : Nat) : Nat → Ln := fun i => if i < k then crashL keep A.l i else A.l i
theorem crashTo_zero (A : Mm) (keep : List Int) : crashTo A keep 0 = A.l := by funext i; simp [crashTo]
theorem crashTo_next (A : Mm) (keep : List Int) (k : Nat) : upd (crashTo A keep k) k (crashL keep A.l k) = crashTo A keep (k + 1) := by
  funext i
  unfold crashTo
  by_cases hi : i = k
  · subst hi; rw [upd_same, if_pos (by omega)]
  · rw [upd_other _ _ _ _ hi]
    by_cases h2 : i < k
    · rw [if_pos h2, if_pos (by omega)]
    · rw [if_neg h2, if_neg (by omega)]
theorem crashL_sure (keep : List Int) (l : Nat → Ln) (k : Nat) (hok : (l k).ok) (h0 : (l k).t.length = 0) : crashL keep l k = l k := by
  have ht : (l k).t = [] := List.length_eq_zero_iff.1 h0
  have hf : (l k).f = fun _ => 0 := by funext j; have := hok.2.2 j; omega
  unfold crashL
  cases h : l k with
  | mk s t f =>
    rw [h] at ht hf
    simp only at ht hf
    subst ht hf
    simp [Ln.settle, Ln.lose, runS]

theorem crash_any {w : World} {F : Nat → Prop} {b c : Nat} {A : Mm} {cs : Nat → Cel} (h : Rep w F b A c cs) (hok : A.ok 1000) (a : Option Addr) (keep : List Int) (cap : Nat) (hr : ∀ z ∈ keep, In64 z) (hl : keep.length ≤ 9223372036854775807) (hi : IntsAt w a keep) (hap : ∀ x, a = some x → keep ≠ [] → ¬ F x.block) :
    Calls Tryz.prog 44 #[.pointer (some ⟨b, 0, none⟩), .slice a keep.length cap] w (Went F w b c (A.crash keep) (.tuple #[])) := by
  obtain ⟨K0, c0⟩ := h.c0
  have H := hide h
  have HI := hide hi
  have HOK := hide hok
  have hn := hok.2.1
  clear h hi hok
  go_enter Tryz.func44, Tryz.ntmps44
  go_wp2
  go_loopw [4, 12] (fun u i wr => ∃ k : Nat, k ≤ A.n ∧ i = .int .i64 k ∧ u = .int .i64 (rank A.l k : Nat) ∧ ∃ cr, Rep wr F b ⟨A.n, crashTo A keep k, A.on, A.fuse, A.steps⟩ c cr ∧ Keeps F w wr) (fun _ i _ => A.n - (intOf i).toNat)
  case atStart => exact ⟨0, by omega, rfl, rfl, cs, by rw [crashTo_zero]; exact unhide H, Keeps.refl _ _⟩
  case round =>
    clear c0
    obtain ⟨k, hk, rfl, rfl, cr, hr', hkp⟩ := hrel
    obtain ⟨K0, c0⟩ := hr'.c0
    simp only at c0
    have HR := hide hr'
    have HK := hide hkp
    have hrk := rank_le A.l k
    clear hr' hkp
    by_cases hlt : k < A.n
    · have cc := (unhide HR).lenc k hlt
      simp only [show crashTo A keep k k = A.l k by simp [crashTo]] at cc
      have hk' : (k : Int) < (A.n : Int) := by omega
      have hlen := (unhide HOK).2.2.2.1 k
      by_cases h0 : (A.l k).t.length = 0
      · rw [h0] at cc
        have HN : Hid (crashTo A keep k = crashTo A keep (k + 1)) := by
          show _ = _
          rw [← crashTo_next, crashL_sure keep A.l k ((unhide HOK).2.2.1 k) h0]
          funext i
          by_cases hi : i = k
          · subst hi; rw [upd_same]; simp [crashTo]
          · rw [upd_other _ _ _ _ hi]
        have HRK : Hid (rank A.l (k + 1) = rank A.l k) := by show _ = _; simp [rank, h0]
        have H0 := hide h0
        clear h0
        go_wp2
        go_roundw
        case rel => exact ⟨k + 1, by omega, by go_num, by rw [unhide HRK], cr, by rw [← unhide HN]; exact unhide HR, unhide HK⟩
        case measure => simp [intOf]; omega
      · obtain ⟨m, hm⟩ : ∃ m, m = (A.l k).t.length := ⟨_, rfl⟩
        rw [← hm] at cc h0 hlen
        have HM := hide hm
        clear hm
        have hne : ((m : Int) == 0) = false := beq_eq_false_iff_ne.2 (by omega)
        have hik : IntsAt wr a keep := by
          rcases unhide HI with e | ⟨x, off, e, hx⟩
          · exact Or.inl e
          · exact Or.inr ⟨x, off, e, fun i hi => (unhide HK).cellOf (hx i hi) (hap _ e (fun h => by rw [h] at hi; simp at hi))⟩
        have CK := hide (kept_any a keep cap hr hl wr hik (rank A.l k) m (by omega))
        have HRK : Hid (rank A.l (k + 1) = rank A.l k + 1) := by
          show rank A.l k + (if (A.l k).t.length = 0 then 0 else 1) = _
          rw [if_neg (by rw [← unhide HM]; exact h0)]
        obtain ⟨kn, hkn⟩ : ∃ kn, kn = keptN keep (rank A.l k) m := ⟨_, rfl⟩
        have hkm : kn ≤ m := by rw [hkn]; exact keptN_le _ _ _
        have HL : Hid (crashL keep A.l k = ((A.l k).settle kn).lose) := by show _ = _; rw [hkn, unhide HM]; rfl
        rw [← hkn] at CK
        clear hik hkn
        have hlk : (cr k).l = A.l k := by rw [(unhide HR).ln k]; simp [crashTo]
        have HLK := hide hlk
        have CS := hide (settle_any (cr k) (by rw [hlk]; exact (unhide HOK).2.2.1 k) kn (by rw [hlk, ← unhide HM]; exact hkm) (by rw [hlk, ← unhide HM]; omega) c (k * 25) (A.n * 25) (encF cr) wr (by omega) (unhide HR).bl (fun j hj => encF_at _ _ _ hj) ((unhide HR).row k hlt) (fun e => ((unhide HR).ap k hlt c e).2.1 rfl))
        clear hlk
        go_wp2_with fail
        refine (unhide CK).mono ?_
        rintro e w1 ⟨rfl, rfl⟩
        go_wp2_with fail
        refine (unhide CS).mono ?_
        rintro e w1 ⟨rfl, hb1, hk1⟩
        have HR1 : Hid (Rep w1 F b ⟨A.n, upd (crashTo A keep k) k ((A.l k).settle kn), A.on, A.fuse, A.steps⟩ c (upd cr k ((cr k).settle kn))) := by
          have := (unhide HR).settled k hlt kn (by rw [show (Mm.mk A.n (crashTo A keep k) A.on A.fuse A.steps).l k = A.l k by simp [crashTo], ← unhide HM]; exact hkm) hk1 hb1
          simp only [show crashTo A keep k k = A.l k by simp [crashTo]] at this
          exact this
        have HK1 : Hid (Keeps F w w1) := (unhide HK).trans' (hk1.mono fun x _ e => by rw [e]; exact (unhide HR).fc)
        have CL := hide (lose_any ((A.l k).settle kn).s c (k * 25) (A.n * 25) (encF (upd cr k ((cr k).settle kn))) w1 (by omega) (unhide HR1).bl (fun j hj => by
          rw [encF_at _ _ _ (by omega), upd_same]; simp [encAt, hj, Cel.settle, unhide HLK]))
        clear hb1 hk1 CK CS HR HK c0 cc
        go_wp2_with fail
        refine (unhide CL).mono ?_
        rintro e w2 ⟨rfl, hb2, hk2⟩
        have HR2 : Hid (∃ cr', Rep w2 F b ⟨A.n, crashTo A keep (k + 1), A.on, A.fuse, A.steps⟩ c cr') := by
          have := (unhide HR1).line_same k hlt (Cel.fresh ((A.l k).settle kn).s) hk2 hb2 (Or.inl ⟨rfl, rfl, rfl⟩) (fun g hg => by simp [Cel.fresh, Cel.blk] at hg)
          refine ⟨upd (upd cr k ((cr k).settle kn)) k (Cel.fresh ((A.l k).settle kn).s), ?_⟩
          · rw [← crashTo_next, unhide HL]
            have e : upd (upd (crashTo A keep k) k ((A.l k).settle kn)) k (Cel.fresh ((A.l k).settle kn).s).l = upd (crashTo A keep k) k ((A.l k).settle kn).lose := by
              funext i
              by_cases hi : i = k
              · subst hi; rw [upd_same, upd_same]; rfl
              · rw [upd_other _ _ _ _ hi, upd_other _ _ _ _ hi, upd_other _ _ _ _ hi]
            rw [← e]; exact this
        have HK2 : Hid (Keeps F w w2) := (unhide HK1).trans' (hk2.mono fun x _ e => by rw [e]; exact (unhide HR1).fc)
        clear hb2 hk2 HR1 HK1 CL
        go_wp2_with fail
        go_roundw
        case rel =>
          obtain ⟨cr', hr'⟩ := unhide HR2
          exact ⟨k + 1, by omega, by go_num, by rw [unhide HRK]; go_num, cr', hr', unhide HK2⟩
        case measure => simp [intOf]; omega
    · obtain rfl : k = A.n := by omega
      have f1 := (unhide HR).fr 1
      have f2 := (unhide HR).fr 2
      have c1 := (unhide HR).c1
      have c2 := (unhide HR).c2
      simp only at c1 c2
      go_wp2_with fail
      go_end0
      obtain ⟨cr', hr'⟩ := (unhide HR).lines (A' := ⟨A.n, crashL keep A.l, A.on, A.fuse, A.steps⟩) rfl rfl rfl rfl (fun i hi => by simp [crashTo, show i < A.n from hi])
      refine ⟨rfl, F, cr', ?_, Keeps.setCell (F := F) (p := ⟨b, 2, none⟩) (Keeps.setCell (F := F) (p := ⟨b, 1, none⟩) (unhide HK) (unhide HR).fb _) (unhide HR).fb _, Grew.refl _ _⟩
      exact hr'.head (Keeps.setCell (F := (· = b)) (p := ⟨b, 2, none⟩) (Keeps.setCell (F := (· = b)) (p := ⟨b, 1, none⟩) (Keeps.refl _ _) rfl _) rfl _) true (-1) A.steps (head_set (head_set hr'.hd 1 (.bool true) ⟨A.n, crashL keep A.l, true, A.fuse, A.steps⟩ fun _ => rfl) 2 (.int .i64 (-1)) _ fun _ => rfl)

end Go.Proofs.YtiafhcgaikapcaaGreat


/-
  What Of and New make; what Sure tells.
-/
namespace Go.Proofs.YtiafhcgaikapcaaGreat
open Go.ChangeShapes Go.WideShapes Go.ChangeAt Go.RowKit Go.Joins
set_option maxRecDepth 10000
set_option linter.unusedVariables false
set_option linter.unusedSimpArgs false

/-- Lines that lie where a slice leads. -/
def LinesAt (w : World) (a : Option Addr) (n : Nat) (s : Nat → Nat → Int) : Prop := n = 0 ∨ ∃ b off, a = some ⟨b, off, none⟩ ∧ ∀ i, i < n → w.rangeAt b (off + i * 8) ((List.range 8).map fun j => .int .u64 (s i j))
def Made (w : World) (n : Nat) (s : Nat → Nat → Int) (e : Ending) (w' : World) : Prop :=
  ∃ b c F cs, e = .returned (.tuple #[.pointer (some ⟨b, 0, none⟩), .int .i64 0]) ∧ Rep w' F b (Mm.new n s) c cs ∧ Keeps (fun _ => False) w w' ∧ ∀ k, F k → w.heap.size ≤ k

theorem made_blk {w : World} {base g n : Nat} {e : TypeId} {size : Nat} {z : Array Value} {f : Nat → Value} (h : w.ownsRow base e size (.slice (some ⟨g, 0, none⟩) n n) n (madeCells z (n * size)).toList) (hf : ∀ i, i < n * size → z[i % z.size]! = f i) :
    Blk w g (n * size) e f := by
  rcases h.2 with ⟨h', _⟩ | ⟨g', cap, cur, h', _, hg, _, _, hcs, htake⟩
  · simp at h'
  · simp only [Value.slice.injEq, Option.some.injEq, Addr.mk.injEq, and_true, true_and] at h'
    obtain ⟨rfl, rfl⟩ := h'
    have hcur : cur = tab (n * size) f := by
      rw [List.take_of_length_le (by simp [hcs])] at htake
      have h2 : cur = madeCells z (n * size) := by rw [← Array.toArray_toList (xs := cur), htake, Array.toArray_toList]
      rw [h2]
      apply Array.ext_getElem?
      intro i
      by_cases hi : i < n * size
      · rw [tab_get _ _ _ hi]
        simp only [madeCells, Array.getElem?_map, Array.getElem?_range, hi]
        simp [hf i hi]
      · rw [tab_none _ _ _ (by omega), Array.getElem?_eq_none (by rw [size_madeCells]; omega)]
    refine Blk.of_tab ?_
    rw [← hcur]; exact hg

theorem info_cell : (Tryz.prog.info? 170).map (fun i => (i.zero, i.size, i.bytes)) = some (some (.agg (tab 25 (encAt (Cel.fresh fun _ => 0)))), 25, 216) := by kernel_rfl
theorem info_line : (Tryz.prog.info? 83).map (fun i => (i.zero, i.size, i.bytes)) = some (some (.agg (lnV fun _ => 0)), 8, 64) := by kernel_rfl
theorem built_mem (c n : Nat) : Tryz.prog.built 138 [(0, .slice (some ⟨c, 0, none⟩) n n), (1, .bool true), (2, .int .i64 (-1))] = some #[.slice (some ⟨c, 0, none⟩) n n, .bool true, .int .i64 (-1), .int .i64 0] := by kernel_rfl

def ofTo (s : Nat → Nat → Int) (k : Nat) : Nat → Nat → Int := fun i => if i < k then s i else fun _ => 0
theorem make_rep {w1 w2 : World} {n : Nat} (hown : w2.ownsRow w1.heap.size 170 25 (.slice (some ⟨w1.heap.size, 0, none⟩) n n) n (madeCells (Value.agg (tab 25 (encAt (Cel.fresh fun _ => 0)))).cells (n * 25)).toList) (hgrow : w1.grownBy w2 none) {s : Nat → Nat → Int} :
    Rep (w2.alloc (.cells #[.slice (some ⟨w1.heap.size, 0, none⟩) n n, .bool true, .int .i64 (-1), .int .i64 0] 138)) (fun x => x = w2.heap.size ∨ x = w1.heap.size) w2.heap.size (Mm.new n (ofTo s 0)) w1.heap.size (fun _ => Cel.fresh fun _ => 0) := by
  have hbk : Blk w2 w1.heap.size (n * 25) 170 (encF fun _ => Cel.fresh fun _ => 0) := made_blk hown fun i _ => by
    show (tab 25 (encAt (Cel.fresh fun _ => 0)))[i % (tab 25 (encAt (Cel.fresh fun _ => 0))).size]! = _
    rw [tab_size]
    have := tab_get 25 (encAt (Cel.fresh fun _ => 0)) (i % 25) (Nat.mod_lt _ (by decide))
    rw [getElem!_def, this]; rfl
  have hlt := hbk.lt
  refine ⟨⟨n, heap_new w2 _⟩, hbk.alloc _, fun i => ?_, fun i hi => Or.inl ⟨rfl, rfl, rfl⟩, by omega, fun i hi g hg => by simp [Cel.fresh, Cel.blk] at hg, fun i j hi hj hij g hg => by simp [Cel.fresh, Cel.blk] at hg, Or.inl rfl, Or.inr rfl, fun k hk => ?_⟩
  · simp [Mm.new, ofTo, Cel.fresh]
  · rcases hk with rfl | rfl
    · simp
    · simp; omega
theorem rangeAt_keeps {F : Nat → Prop} {w w' : World} {b o : Nat} {cs : List Value} (h : w.rangeAt b o cs) (hk : Keeps F w w') (hb : ¬ F b) : w'.rangeAt b o cs := fun j v hv => hk.cellOf (h j v hv) hb

theorem of_any (w : World) (a : Option Addr) (n cap : Nat) (s : Nat → Nat → Int) (hn : 64 ≤ n) (hn2 : n ≤ 1024) (hl : LinesAt w a n s) :
    Calls Tryz.prog 61 #[.slice a n cap] w (Made w n s) := by
  have D : decide ((64 : Int) ≤ (n : Int) ∧ (n : Int) ≤ 1024) = true := by simp; omega
  obtain ⟨x, off, rfl, hx⟩ : ∃ b off, a = some ⟨b, off, none⟩ ∧ ∀ i, i < n → w.rangeAt b (off + i * 8) ((List.range 8).map fun j => .int .u64 (s i j)) := by
    rcases hl with h | h
    · omega
    · exact h
  have HX := hide hx
  clear hl hx
  obtain ⟨i0, hi, hz0, hz1, hz2⟩ := info_parts info_cell
  go_enter Tryz.func61, Tryz.ntmps61
  go_wp2_with fail
  refine (isSize_any _ _).mono ?_
  rintro e w1 ⟨rfl, rfl⟩
  rw [D]
  go_wp2_with (at_make; refine wpList_make_full _ rfl _ _ 136 rfl w1.heap.size 170 i0 _ 25 Tryz.underlying136 hi hz0 hz1 .i64 .i64 _ _ n rfl rfl rfl rfl (by rw [hz2]; omega) (by unfold maxLen; omega) (Nat.le_refl _) ?_; intro w2 hown hgrow)
  have hW := make_rep hown hgrow (s := s)
  obtain ⟨b, hb⟩ : ∃ b, b = w2.heap.size := ⟨_, rfl⟩
  obtain ⟨c, hc⟩ : ∃ c, c = w1.heap.size := ⟨_, rfl⟩
  rw [← hb, ← hc] at hW ⊢
  have hbw : Hid (w1.heap.size ≤ b) := by show _ ≤ _; rw [hb]; exact hgrow.size
  have hcw : Hid (w1.heap.size ≤ c) := by show _ ≤ _; rw [hc]; exact Nat.le_refl _
  have HKW : Hid (Keeps (fun _ => False) w1 (w2.alloc (.cells #[.slice (some ⟨c, 0, none⟩) n n, .bool true, .int .i64 (-1), .int .i64 0] 138))) := (Keeps.grown (Keeps.refl _ _) hgrow (fun k hk => by simp at hk)).alloc _
  have HW := hide hW
  clear hown hgrow hb hc hW hi hz0 hz1 hz2 i0
  generalize w2.alloc (.cells #[.slice (some ⟨c, 0, none⟩) n n, .bool true, .int .i64 (-1), .int .i64 0] 138) = W at *
  clear w2
  go_loopw [18] (fun i wr => ∃ k : Nat, k ≤ n ∧ i = .int .i64 k ∧ ∃ cr, Rep wr (fun x => x = b ∨ x = c) b (Mm.new n (ofTo s k)) c cr ∧ Keeps (fun _ => False) w1 wr) (fun i _ => n - (intOf i).toNat)
  case atStart => exact ⟨0, by omega, rfl, _, unhide HW, unhide HKW⟩
  case round =>
    clear HW HKW
    clear W
    obtain ⟨k, hk, rfl, cr, hr, hkp⟩ := hrel
    by_cases hlt : k < n
    · have HR := hide hr
      have HK := hide hkp
      have hcr : wr.rangeAt x (off + k * 8) ((List.range 8).map fun j => .int .u64 (s k j)) := rangeAt_keeps (unhide HX k hlt) hkp id
      have HCR := hide hcr
      have s8 : (Tryz.prog.info? 83).map (·.size) = some ((List.range 8).map fun j => Value.int .u64 (s k j)).length := by rw [List.length_map, List.length_range]; exact lsize
      have s8' : (Tryz.prog.info? 83).map (·.size) = some (lnV (s k)).size := by rw [lnV_size]; exact lsize
      have hk' : (k : Int) < (n : Int) := by omega
      clear hr hkp hcr
      go_wp2_with (refine wpList_load_mid rfl 83 _ rfl x (off + k * 8) rfl _ _ (unhide HCR) Tryz.underlying83 rfl s8 ?_)
      have hz : (#[.int .u64 (s k 0), .int .u64 (s k 1), .int .u64 (s k 2), .int .u64 (s k 3), .int .u64 (s k 4), .int .u64 (s k 5), .int .u64 (s k 6), .int .u64 (s k 7)] : Array Value) = lnV (s k) := rfl
      rw [hz]
      clear hz
      obtain ⟨L, hL⟩ : ∃ L, L = wr.heap.size := ⟨_, rfl⟩
      have hLc : L ≠ c := by have := (unhide HR).lt c (Or.inr rfl); omega
      have HV := hide ((unhide HR).alloc (.cells (lnV (s k)) 83))
      have HKV : Hid (Keeps (fun _ => False) w1 (wr.alloc (.cells (lnV (s k)) 83))) := (unhide HK).alloc _
      have HRL : Hid ((wr.alloc (.cells (lnV (s k)) 83)).rangeAt L 0 ((List.range 8).map fun j => .int .u64 (s k j))) := by
        rw [hL]; exact Blk.range (f := fun j => .int .u64 (s k j)) (N := 8) (T := 83) (Blk.of_tab (heap_new wr _)) 0 8 (by omega) _ (fun j hj => by rw [Nat.zero_add])
      rw [← hL]
      clear hL HCR HR HK
      generalize wr.alloc (.cells (lnV (s k)) 83) = V at *
      clear wr
      obtain ⟨K0, c0⟩ := (unhide HV).c0
      simp only [Mm.new] at c0
      have hbc := (unhide HV).bc
      have s25 : (Tryz.prog.info? 170).map (·.size) = some (tab 25 (encAt (Cel.fresh (s k)))).size := by rw [tab_size]; exact csize
      refine wp_region_noPanic ?_
      refine wp_region_held_drew (S := fun w' => w'.cell? ⟨b, 0, none⟩ = some (.slice (some ⟨c, 0, none⟩) n K0) ∧ w'.rangeAt L 0 ((List.range 8).map fun j => .int .u64 (s k j))) (by kernel_rfl) ⟨c0, unhide HRL⟩ (fun hHeld => ?_)
      clear c0
      refine take_at 0 23 (v := ?_) rfl rfl (by kernel_rfl) (by kernel_rfl) (by kernel_rfl) (Or.inl ⟨by rfl, ?_⟩) hHeld ?_
      rotate_left
      · intro w hSw; go_simp; with_reducible rfl
      simp only [Act.put, List.setIfInBounds_toArray, List.set_cons_zero, List.set_cons_succ]
      refine take_at 1 24 (v := ?_) rfl rfl (by kernel_rfl) (by kernel_rfl) (by kernel_rfl) (Or.inl ⟨by rfl, ?_⟩) hHeld ?_
      rotate_left
      · intro w hSw; go_simp; with_reducible rfl
      simp only [Act.put, List.setIfInBounds_toArray, List.set_cons_zero, List.set_cons_succ]
      refine take_at 2 25 (v := ?_) rfl rfl (by kernel_rfl) (by kernel_rfl) (by kernel_rfl) (Or.inl ⟨by rfl, ?_⟩) hHeld ?_
      rotate_left
      · intro w hSw; go_simp; with_reducible rfl
      simp only [Act.put, List.setIfInBounds_toArray, List.set_cons_zero, List.set_cons_succ]
      refine take_at 3 26 (v := ?_) rfl rfl (by kernel_rfl) (by kernel_rfl) (by kernel_rfl) (Or.inl ⟨by rfl, ?_⟩) hHeld ?_
      rotate_left
      · intro w hSw; obtain ⟨s1, s2⟩ := hSw; go_simp; with_reducible rfl
      simp only [Act.put, List.setIfInBounds_toArray, List.set_cons_zero, List.set_cons_succ]
      refine take_at 4 27 (v := ?_) rfl rfl (by kernel_rfl) (by kernel_rfl) (by kernel_rfl) (Or.inl ⟨by rfl, ?_⟩) hHeld ?_
      rotate_left
      · intro w hSw; go_simp; with_reducible rfl
      simp only [Act.put, List.setIfInBounds_toArray, List.set_cons_zero, List.set_cons_succ]
      refine take_at 5 28 rfl rfl (by kernel_rfl) (by kernel_rfl) (by kernel_rfl) (yieldsIf_load_mid (by rfl) _ _ rfl L 0 rfl _ _ (fun w h => h.2) Tryz.underlying83 rfl s8) hHeld ?_
      simp only [Act.put, List.setIfInBounds_toArray, List.set_cons_zero, List.set_cons_succ]
      refine take_at 6 29 rfl rfl (by kernel_rfl) (by kernel_rfl) (by kernel_rfl) (yieldsIf_load_mid (by rfl) _ _ rfl L 0 rfl _ _ (fun w h => h.2) Tryz.underlying83 rfl s8) hHeld ?_
      simp only [Act.put, List.setIfInBounds_toArray, List.set_cons_zero, List.set_cons_succ]
      refine take_at 7 30 rfl rfl (by kernel_rfl) (by kernel_rfl) (by kernel_rfl) (yieldsIf_build2 (by rfl) 170 0 1 (.tmp 28) (.tmp 29) rfl (.agg (lnV (s k))) (.agg (lnV (s k))) rfl rfl _ (built_cell (s k))) hHeld ?_
      simp only [Act.put, List.setIfInBounds_toArray, List.set_cons_zero, List.set_cons_succ]
      refine take_at 8 31 (v := ?_) rfl rfl (by kernel_rfl) (by kernel_rfl) (by kernel_rfl) (Or.inl ⟨by rfl, ?_⟩) hHeld ?_
      rotate_left
      · intro w hSw; go_simp; with_reducible rfl
      simp only [Act.put, List.setIfInBounds_toArray, List.set_cons_zero, List.set_cons_succ]
      refine wpAnyH_ready (rs := [9]) (by kernel_rfl) (by simp) ?_
      refine AllReadyH.cons rfl (fun K hK => ?_) AllReadyH.nil
      refine (if_pos (by rfl)).mpr ?_
      refine wp_store_mid 170 _ _ rfl c (k * 25) (tab 25 (encAt (Cel.fresh (s k)))) rfl rfl (by rw [tab_size]; exact ((unhide HV).bl.there (k * 25) 25 (show k * 25 + 25 ≤ n * 25 by omega))) s25 (tabC_one _) ?_
      have HKX : Hid (Keeps (· = c) V (V.drew.setCells c (k * 25) (tab 25 (encAt (Cel.fresh (s k)))).toList)) := Keeps.setCells (F := (· = c)) (Or.inl rfl) _ _ _ (Keeps.refl _ _).drew
      have HRX : Hid (∃ cr', Rep (V.drew.setCells c (k * 25) (tab 25 (encAt (Cel.fresh (s k)))).toList) (fun x => x = b ∨ x = c) b (Mm.new n (ofTo s (k + 1))) c cr') := by
        have := (unhide HV).line_same k hlt (Cel.fresh (s k)) (unhide HKX) (Blk.putC (w := V.drew) (unhide HV).bl (k * 25) _) (Or.inl ⟨rfl, rfl, rfl⟩) (fun g hg => by simp [Cel.fresh, Cel.blk] at hg)
        refine ⟨upd cr k (Cel.fresh (s k)), ?_⟩
        have e : upd (Mm.new n (ofTo s k)).l k (Cel.fresh (s k)).l = (Mm.new n (ofTo s (k + 1))).l := by
          funext i
          by_cases hi : i = k
          · subst hi; rw [upd_same]; simp [Mm.new, ofTo, Cel.fresh]
          · rw [upd_other _ _ _ _ hi]
            by_cases h2 : i < k
            · simp [Mm.new, ofTo, h2, show i < k + 1 by omega]
            · simp [Mm.new, ofTo, h2, show ¬ i < k + 1 by omega]
        rw [e] at this; exact this
      have HKY : Hid (Keeps (fun _ => False) w1 (V.drew.setCells c (k * 25) (tab 25 (encAt (Cel.fresh (s k)))).toList)) := Keeps.setCells (Or.inr (unhide hcw)) _ _ _ (unhide HKV).drew
      refine hK.out _ _ ⟨(unhide HKX).cellOf (w := V) hHeld.1 hbc, rangeAt_keeps (w := V) (unhide HRL) (unhide HKX) hLc⟩ (fun hNew => ?_)
      clear hK K hHeld hNew HKX HV HKV HRL
      generalize V.drew.setCells c (k * 25) (tab 25 (encAt (Cel.fresh (s k)))).toList = X at *
      refine wpAnyH_done (by kernel_rfl) ?_ _
      refine NoPanic.normal ?_
      go_wp2_with fail
      go_roundw
      case rel =>
        obtain ⟨cr', hr'⟩ := unhide HRX
        exact ⟨k + 1, by omega, by go_num, cr', hr', unhide HKY⟩
      case measure => simp [intOf]; omega
    · obtain rfl : k = n := by omega
      have HR := hide hr
      have HK := hide hkp
      clear hr hkp
      go_wp2_with fail
      go_ret2
      obtain ⟨cr', hr'⟩ := (unhide HR).lines (A' := Mm.new k s) rfl rfl rfl rfl (fun i hi => by simp [Mm.new, ofTo, show i < k from hi])
      exact ⟨b, c, _, cr', rfl, hr', unhide HK, fun x hx => by rcases hx with rfl | rfl; exact unhide hbw; exact unhide hcw⟩

theorem of_bad (w : World) (a : Option Addr) (n cap : Nat) (hn : ¬ (64 ≤ n ∧ n ≤ 1024)) :
    Calls Tryz.prog 61 #[.slice a n cap] w fun e w' => e = .returned (.tuple #[.pointer none, .int .i64 1]) ∧ w' = w := by
  have D : decide ((64 : Int) ≤ (n : Int) ∧ (n : Int) ≤ 1024) = false := by simp; omega
  clear hn
  go_enter Tryz.func61, Tryz.ntmps61
  go_wp2_with fail
  refine (isSize_any _ _).mono ?_
  rintro e w1 ⟨rfl, rfl⟩
  rw [D]
  go_wp2_with fail
  go_ret2
  exact ⟨rfl, rfl⟩

theorem new_any (w : World) (n : Nat) (hn : 64 ≤ n) (hn2 : n ≤ 1024) : Calls Tryz.prog 50 #[.int .i64 n] w (Made w n fun _ _ => 0) := by
  have D : decide ((64 : Int) ≤ (n : Int) ∧ (n : Int) ≤ 1024) = true := by simp; omega
  obtain ⟨i0, hi, hz0, hz1, hz2⟩ := info_parts info_line
  go_enter Tryz.func50, Tryz.ntmps50
  go_wp2_with fail
  refine (isSize_any _ _).mono ?_
  rintro e w1 ⟨rfl, rfl⟩
  rw [D]
  go_wp2_with (at_make; refine wpList_make_full _ rfl _ _ 35 rfl w1.heap.size 83 i0 _ 8 Tryz.underlying35 hi hz0 hz1 .i64 .i64 _ _ n rfl rfl rfl rfl (by rw [hz2]; omega) (by unfold maxLen; omega) (Nat.le_refl _) ?_; intro w2 hown hgrow)
  have hb : Blk w2 w1.heap.size (n * 8) 83 (fun _ => .int .u64 0) := made_blk hown fun i _ => by
    show (lnV fun _ => 0)[i % (lnV fun _ => 0).size]! = _
    rw [lnV_size]
    have := tab_get 8 (fun _ => Value.int .u64 0) (i % 8) (Nat.mod_lt _ (by decide))
    rw [getElem!_def, show (lnV fun _ => 0)[i % 8]? = _ from this]
  have hl : LinesAt w2 (some ⟨w1.heap.size, 0, none⟩) n (fun _ _ => 0) := Or.inr ⟨_, 0, rfl, fun i hi => hb.range _ 8 (by omega) _ (fun j hj => rfl)⟩
  refine (of_any w2 _ n n _ hn hn2 hl).mono ?_
  rintro e w3 ⟨b, c, F, cs, rfl, hr, hkp, hF⟩
  have HR := hide hr
  have HK : Hid (Keeps (fun _ => False) w1 w3) := (Keeps.grown (Keeps.refl _ _) hgrow (fun k hk => by simp at hk)).trans' hkp
  have HS := hgrow.size
  clear hr hkp hown hb hl hi hz0 hz1 hz2 hgrow
  go_wp2_with fail
  go_ret2
  exact ⟨b, c, F, cs, rfl, unhide HR, unhide HK, fun k hk => Nat.le_trans HS (hF k hk)⟩

theorem new_bad (w : World) (z : Int) (hz : ¬ (64 ≤ z ∧ z ≤ 1024)) : Calls Tryz.prog 50 #[.int .i64 z] w fun e w' => e = .returned (.tuple #[.pointer none, .int .i64 1]) ∧ w' = w := by
  have D : decide ((64 : Int) ≤ z ∧ z ≤ 1024) = false := by simpa using hz
  clear hz
  go_enter Tryz.func50, Tryz.ntmps50
  go_wp2_with fail
  refine (isSize_any _ _).mono ?_
  rintro e w1 ⟨rfl, rfl⟩
  rw [D]
  go_wp2_with fail
  go_ret2
  exact ⟨rfl, rfl⟩

/-! ### Sure -/
/-- What Sure tells: a new row of lines. -/
def Told (F : Nat → Prop) (w : World) (b c : Nat) (A : Mm) (cs : Nat → Cel) (e : Ending) (w' : World) : Prop :=
  ∃ g, e = .returned (.slice (some ⟨g, 0, none⟩) A.n A.n) ∧ w.heap.size ≤ g ∧ Blk w' g (A.n * 8) 83 (fun i => .int .u64 ((A.l (i / 8)).s (i % 8))) ∧ Rep w' F b A c cs ∧ Keeps (fun _ => False) w w'
def toldTo (A : Mm) (k : Nat) : Nat → Value := fun i => if i < k * 8 then .int .u64 ((A.l (i / 8)).s (i % 8)) else .int .u64 0

theorem sure_any {w : World} {F : Nat → Prop} {b c : Nat} {A : Mm} {cs : Nat → Cel} (h : Rep w F b A c cs) (hn2 : A.n ≤ 1024) :
    Calls Tryz.prog 40 #[.pointer (some ⟨b, 0, none⟩)] w (Told F w b c A cs) := by
  obtain ⟨K0, c0⟩ := h.c0
  have H := hide h
  have HLT := hide h.lt
  clear h
  obtain ⟨n, hn⟩ : ∃ n, n = A.n := ⟨_, rfl⟩
  rw [← hn] at c0 hn2
  have HN := hide hn
  clear hn
  obtain ⟨i0, hi, hz0, hz1, hz2⟩ := info_parts info_line
  go_enter Tryz.func40, Tryz.ntmps40
  go_upto_region 2 with (at_make; refine wpList_make_full _ rfl _ _ 35 rfl w.heap.size 83 i0 _ 8 Tryz.underlying35 hi hz0 hz1 .i64 .i64 _ _ n rfl rfl rfl rfl (by rw [hz2]; omega) (by unfold maxLen; omega) (Nat.le_refl _) ?_; intro w2 hown hgrow)
  have hb : Blk w2 w.heap.size (n * 8) 83 (toldTo A 0) := made_blk hown fun i _ => by
    show (lnV fun _ => 0)[i % (lnV fun _ => 0).size]! = _
    rw [lnV_size]
    have := tab_get 8 (fun _ => Value.int .u64 0) (i % 8) (Nat.mod_lt _ (by decide))
    rw [getElem!_def, show (lnV fun _ => 0)[i % 8]? = _ from this]
    simp [toldTo]
  have HK2 : Hid (Keeps (fun _ => False) w w2) := Keeps.grown (Keeps.refl _ _) hgrow (fun k hk => by simp at hk)
  have HR2 : Hid (Rep w2 F b A c cs) := (unhide H).keeps (unhide HK2) (fun _ _ => id)
  have HB2 := hide hb
  obtain ⟨g, hg⟩ : ∃ g, g = w.heap.size := ⟨_, rfl⟩
  rw [← hg] at HB2 ⊢
  have HG := hide hg
  have HGF : Hid (∀ x, F x → x ≠ g) := fun x hx e => by have := unhide HLT x hx; omega
  clear hown hgrow hb hi hz0 hz1 hz2 i0 c0 hg
  obtain ⟨K1, c0⟩ := (unhide HR2).c0
  rw [← unhide HN] at c0
  go_wp2_with fail
  go_loopw [16] (fun i wr => ∃ k : Nat, k ≤ n ∧ i = .int .i64 k ∧ Rep wr F b A c cs ∧ Blk wr g (n * 8) 83 (toldTo A k) ∧ Keeps (fun _ => False) w wr) (fun i _ => n - (intOf i).toNat)
  case atStart => exact ⟨0, by omega, rfl, unhide HR2, unhide HB2, unhide HK2⟩
  case round =>
    clear HR2 HB2 HK2 c0
    obtain ⟨k, hk, rfl, hr, hbr, hkp⟩ := hrel
    have HR := hide hr
    have HB := hide hbr
    have HK := hide hkp
    clear hr hbr hkp
    by_cases hlt : k < n
    · obtain ⟨K2, c0⟩ := (unhide HR).c0
      rw [← unhide HN] at c0
      obtain ⟨Lc, hLc⟩ : ∃ Lc, Lc = lnV (A.l k).s := ⟨_, rfl⟩
      have hcr : Hid (wr.rangeAt c (k * 25) Lc.toList) := by rw [hLc]; exact (unhide HR).sureR k (by rw [← unhide HN]; exact hlt)
      have s8 : (Tryz.prog.info? 83).map (·.size) = some Lc.toList.length := by rw [hLc, Array.length_toList, lnV_size]; exact lsize
      have s8' : (Tryz.prog.info? 83).map (·.size) = some Lc.size := by rw [hLc, lnV_size]; exact lsize
      have hk' : (k : Int) < (n : Int) := by omega
      have hth : Hid (wr.there g (k * 8) Lc.size) := by rw [hLc, lnV_size]; exact (unhide HB).there (k * 8) 8 (by omega)
      have ho : Hid (Lc.all (·.oneCell') = true) := by rw [hLc]; exact lnV_one _
      have HB3 : Hid (Blk (wr.setCells g (k * 8) Lc.toList) g (n * 8) 83 (toldTo A (k + 1))) := by
        rw [hLc]
        refine (Blk.sets _ _ _ _ (unhide HB)).ext fun i hi => ?_
        have hl : (lnV (A.l k).s).toList.length = 8 := by simp [lnV, tab]
        rw [hl]
        unfold toldTo
        by_cases h1 : k * 8 ≤ i ∧ i < k * 8 + 8
        · rw [if_pos h1, if_pos (by omega)]
          have := tab_get 8 (fun j => Value.int .u64 ((A.l k).s j)) (i - k * 8) (by omega)
          rw [List.getD_eq_getElem?_getD, show (lnV (A.l k).s).toList[i - k * 8]? = some (.int .u64 ((A.l k).s (i - k * 8))) by rw [Array.getElem?_toList]; exact this, show i / 8 = k by omega, show i % 8 = i - k * 8 by omega]; rfl
        · rw [if_neg h1]
          by_cases h2 : i < k * 8
          · rw [if_pos h2, if_pos (by omega)]
          · rw [if_neg h2, if_neg (by omega)]
      have HK3 : Hid (Keeps (fun _ => False) w (wr.setCells g (k * 8) Lc.toList)) := Keeps.setCells (Or.inr (by rw [unhide HG]; exact Nat.le_refl _)) _ _ _ (unhide HK)
      have HR3 : Hid (Rep (wr.setCells g (k * 8) Lc.toList) F b A c cs) := (unhide HR).keeps (G := (· = g)) (Keeps.setCells (F := (· = g)) (Or.inl rfl) _ _ _ (Keeps.refl _ _)) (fun x hx => unhide HGF x hx)
      clear hLc
      go_wp2_with (first | (refine wpList_load_mid rfl 83 _ rfl c (k * 25) rfl _ _ (unhide hcr) Tryz.underlying83 rfl s8 ?_) | (refine wpList_store_mid rfl 83 _ _ rfl g (k * 8) Lc rfl rfl (unhide hth) s8' (unhide ho) ?_))
      go_roundw
      case rel => exact ⟨k + 1, by omega, by go_num, unhide HR3, unhide HB3, unhide HK3⟩
      case measure => simp [intOf]; omega
    · obtain rfl : k = n := by omega
      go_wp2_with fail
      go_ret
      refine ⟨g, by rw [← unhide HN]; rfl, by rw [unhide HG]; exact Nat.le_refl _, ?_, unhide HR, unhide HK⟩
      rw [← unhide HN]
      exact (unhide HB).ext fun i hi => by unfold toldTo; rw [if_pos hi]

end Go.Proofs.YtiafhcgaikapcaaGreat


/-
  A memory that a call has made, beside blocks of the call's own: what each of nvm's calls leaves.
-/
namespace Go.Proofs.YtiafhcgaikapcaaGreat
open Go.ChangeShapes Go.WideShapes Go.ChangeAt Go.RowKit Go.Joins
set_option maxRecDepth 10000
set_option linter.unusedVariables false
set_option linter.unusedSimpArgs false

/-! ### Numbers stay in their bounds -/
theorem ok_mono {A : Mm} {B B' : Nat} (h : A.ok B) (hB : B ≤ B') : A.ok B' := ⟨h.1, h.2.1, h.2.2.1, fun i => Nat.le_trans (h.2.2.2.1 i) hB, h.2.2.2.2.1, h.2.2.2.2.2.1, Nat.le_trans h.2.2.2.2.2.2 hB⟩
theorem ok_step {A : Mm} {B : Nat} (h : A.ok B) (l : Nat → Ln) (h1 : ∀ i, (l i).ok) (h2 : ∀ i, (l i).t.length ≤ B + 1) : (A.step l).ok (B + 1) := by
  obtain ⟨o1, o2, o3, o4, o5, o6, o7⟩ := h
  unfold Mm.step
  split
  · refine ⟨o1, o2, h1, h2, ?_, ?_, Nat.add_le_add_right o7 1⟩
    · simp only [Mm.stepped]; split <;> omega
    · simp only [Mm.stepped]; split <;> omega
  · exact ⟨o1, o2, o3, fun i => Nat.le_succ_of_le (o4 i), o5, o6, Nat.le_succ_of_le o7⟩
theorem upd_all {α : Type} {P : α → Prop} {f : Nat → α} (h : ∀ i, P (f i)) (k : Nat) {v : α} (hv : P v) : ∀ i, P (upd f k v i) := fun i => by
  unfold upd; split
  · exact hv
  · exact h i
theorem ok_store {A : Mm} {B : Nat} (h : A.ok B) (k q : Nat) (v : Int) (hq : q < 8) (hv : InU v) : (A.store k q v).ok (B + 1) :=
  ok_step h _ (upd_all h.2.2.1 k (Ln.store_ok (h.2.2.1 k) q v hq hv)) (upd_all (P := fun (l : Ln) => l.t.length ≤ B + 1) (fun i => Nat.le_succ_of_le (h.2.2.2.1 i)) k (by have := h.2.2.2.1 k; simp [Ln.store]; omega))
theorem ok_flush {A : Mm} {B : Nat} (h : A.ok B) (c k : Nat) : (A.flush c k).ok (B + 1) :=
  ok_step h _ (upd_all h.2.2.1 k (Ln.flush_ok (h.2.2.1 k) c)) (upd_all (P := fun (l : Ln) => l.t.length ≤ B + 1) (fun i => Nat.le_succ_of_le (h.2.2.2.1 i)) k (by have := h.2.2.2.1 k; simp [Ln.flush]; omega))
theorem ok_fence {A : Mm} {B : Nat} (h : A.ok B) (c : Nat) : (A.fence c).ok (B + 1) :=
  ok_step h _ (fun i => Ln.settle_ok (h.2.2.1 i) _) (fun i => by have := h.2.2.2.1 i; simp [Ln.settle]; omega)
theorem ok_evict {A : Mm} {B : Nat} (h : A.ok B) (k n : Nat) : (A.evict k n).ok B :=
  ⟨h.1, h.2.1, upd_all h.2.2.1 k (Ln.settle_ok (h.2.2.1 k) _), upd_all (P := fun (l : Ln) => l.t.length ≤ B) h.2.2.2.1 k (by have := h.2.2.2.1 k; simp [Ln.settle]; omega), h.2.2.2.2⟩
theorem ok_fused {A : Mm} {B : Nat} (h : A.ok B) (z : Int) (hz : In64 z) : (A.fused z).ok B := by
  obtain ⟨o1, o2, o3, o4, o5, o6, o7⟩ := h
  obtain ⟨z1, z2⟩ := hz
  refine ⟨o1, o2, o3, o4, ?_, ?_, o7⟩ <;> (simp only [Mm.fused]; split <;> omega)
theorem ok_crash {A : Mm} {B : Nat} (h : A.ok B) (keep : List Int) : (A.crash keep).ok B :=
  ⟨h.1, h.2.1, fun i => Ln.lose_ok (Ln.settle_ok (h.2.2.1 i) _), fun i => by simp [Mm.crash, crashL, Ln.lose], by simp [Mm.crash], by simp [Mm.crash], h.2.2.2.2.2.2⟩
theorem ok_new {n : Nat} {s : Nat → Nat → Int} (h1 : 64 ≤ n) (h2 : n ≤ 1024) (hs : ∀ i j, InU (s i j)) : (Mm.new n s).ok 0 :=
  ⟨h1, h2, fun i => Ln.of_ok (hs i), fun i => by simp [Mm.new, Ln.of], by simp [Mm.new], by simp [Mm.new], by simp [Mm.new]⟩

/-! ### A memory beside blocks of the call's own -/
def Same (G : Nat → Prop) (w w' : World) : Prop := ∀ k, G k → w'.heap[k]? = w.heap[k]?
theorem Same.trans {G : Nat → Prop} {a b c : World} (h : Same G a b) (k : Same G b c) : Same G a c := fun i hi => (k i hi).trans (h i hi)
def Has (W w : World) (G : Nat → Prop) (b : Nat) (A : Mm) : Prop :=
  ∃ F c cs, Rep w F b A c cs ∧ Keeps (fun _ => False) W w ∧ (∀ k, F k → W.heap.size ≤ k) ∧ ∀ k, G k → ¬ F k ∧ k < w.heap.size
theorem Has.keeps {W w : World} {G : Nat → Prop} {b : Nat} {A : Mm} (h : Has W w G b A) : Keeps (fun _ => False) W w := by
  obtain ⟨_, _, _, _, h, _⟩ := h; exact h
/-- Behind a call. -/
theorem went_has {W w : World} {F G : Nat → Prop} {b c : Nat} {A' : Mm} {v : Value} {e : Ending} {w' : World} (hk : Keeps (fun _ => False) W w) (hF : ∀ k, F k → W.heap.size ≤ k) (hG : ∀ k, G k → ¬ F k ∧ k < w.heap.size) (h : Went F w b c A' v e w') :
    e = .returned v ∧ Has W w' G b A' ∧ Same G w w' := by
  obtain ⟨he, F', cs', h1, h2, h3⟩ := h
  refine ⟨he, ⟨F', c, cs', h1, ⟨h2.os.trans hk.os, h2.tape.trans hk.tape, h2.output.trans hk.output, Nat.le_trans hk.size h2.size, fun k hk' _ => ?_⟩, fun k hk' => ?_, fun k hk' => ⟨fun hf => ?_, Nat.lt_of_lt_of_le (hG k hk').2 h2.size⟩⟩, fun k hk' => h2.block k (hG k hk').2 (hG k hk').1⟩
  · rw [h2.block k (Nat.lt_of_lt_of_le hk' hk.size) (fun hf => by have := hF k hf; omega)]; exact hk.block k hk' id
  · rcases h3 k hk' with h | h
    · exact hF k h
    · exact Nat.le_trans hk.size h
  · rcases h3 k hf with h | h
    · exact (hG k hk').1 h
    · have := (hG k hk').2; omega
def After (W w : World) (G : Nat → Prop) (b : Nat) (A' : Mm) (v : Value) (e : Ending) (w' : World) : Prop := e = .returned v ∧ Has W w' G b A' ∧ Same G w w'

theorem Has.alloc {W w : World} {G : Nat → Prop} {b : Nat} {A : Mm} (h : Has W w G b A) (o : Obj) : Has W (w.alloc o) (fun k => G k ∨ k = w.heap.size) b A := by
  obtain ⟨F, c, cs, h1, h2, h3, h4⟩ := h
  refine ⟨F, c, cs, h1.alloc o, h2.alloc o, h3, fun k hk => ?_⟩
  rcases hk with hk | rfl
  · exact ⟨(h4 k hk).1, by have := (h4 k hk).2; simp; omega⟩
  · exact ⟨by have := h1.fresh 0; simpa using this, by simp⟩
theorem Has.drew {W w : World} {G : Nat → Prop} {b : Nat} {A : Mm} (h : Has W w G b A) : Has W w.drew G b A := by
  obtain ⟨F, c, cs, h1, h2, h3, h4⟩ := h
  exact ⟨F, c, cs, h1.drew, h2.drew, h3, h4⟩
theorem Has.less {W w : World} {G G' : Nat → Prop} {b : Nat} {A : Mm} (h : Has W w G b A) (hG : ∀ k, G' k → G k) : Has W w G' b A := by
  obtain ⟨F, c, cs, h1, h2, h3, h4⟩ := h
  exact ⟨F, c, cs, h1, h2, h3, fun k hk => h4 k (hG k hk)⟩
/-- A block of the call's own is written. -/
theorem Has.own {W w w' : World} {G : Nat → Prop} {b : Nat} {A : Mm} (h : Has W w G b A) {L : Nat} (hL : G L) (hW : W.heap.size ≤ L) (hk : Keeps (· = L) w w') : Has W w' G b A := by
  obtain ⟨F, c, cs, h1, h2, h3, h4⟩ := h
  refine ⟨F, c, cs, h1.keeps hk fun x hx e => (h4 L hL).1 (e ▸ hx), ⟨hk.os.trans h2.os, hk.tape.trans h2.tape, hk.output.trans h2.output, Nat.le_trans h2.size hk.size, fun k hk' _ => ?_⟩, h3, fun k hk' => ⟨(h4 k hk').1, Nat.lt_of_lt_of_le (h4 k hk').2 hk.size⟩⟩
  rw [hk.block k (Nat.lt_of_lt_of_le hk' h2.size) (by omega)]; exact h2.block k hk' id
theorem Has.lt {W w : World} {G : Nat → Prop} {b : Nat} {A : Mm} (h : Has W w G b A) : ∀ k, G k → k < w.heap.size := by
  obtain ⟨F, c, cs, h1, h2, h3, h4⟩ := h
  exact fun k hk => (h4 k hk).2
theorem made_has {w : World} {n : Nat} {s : Nat → Nat → Int} {e : Ending} {w' : World} (W : World) (hW : Keeps (fun _ => False) W w) (h : Made w n s e w') (G : Nat → Prop) (hG : ∀ k, G k → k < w.heap.size) :
    ∃ b, e = .returned (.tuple #[.pointer (some ⟨b, 0, none⟩), .int .i64 0]) ∧ Has W w' G b (Mm.new n s) ∧ Same G w w' := by
  obtain ⟨b, c, F, cs, h1, h2, h3, h4⟩ := h
  exact ⟨b, h1, ⟨F, c, cs, h2, hW.trans' h3, fun k hk => Nat.le_trans hW.size (h4 k hk), fun k hk => ⟨fun hf => by have := h4 k hf; have := hG k hk; omega, Nat.lt_of_lt_of_le (hG k hk) h3.size⟩⟩, fun k hk => h3.block k (hG k hk) id⟩

theorem Has.store {W w : World} {G : Nat → Prop} {b : Nat} {A : Mm} (h : Has W w G b A) (hok : A.ok 1000) (z y : Int) (k q : Nat) (ez : z = (k : Int)) (ey : y = (q : Int)) (hk : k < A.n) (hq : q < 8) (v : Int) :
    Calls Tryz.prog 72 #[.pointer (some ⟨b, 0, none⟩), .int .i64 z, .int .i64 y, .int .u64 v] w (After W w G b (A.store k q v) (.int .i64 A.err)) := by
  obtain ⟨F, c, cs, h1, h2, h3, h4⟩ := h
  exact (store_any h1 hok z y k q ez ey hk hq v).mono fun e w' hw => went_has h2 h3 h4 hw
theorem Has.store_bad {W w : World} {G : Nat → Prop} {b : Nat} {A : Mm} (h : Has W w G b A) (z y v : Int) (hz : ¬ ((0 ≤ z ∧ z < A.n) ∧ (0 ≤ y ∧ y < 8))) :
    Calls Tryz.prog 72 #[.pointer (some ⟨b, 0, none⟩), .int .i64 z, .int .i64 y, .int .u64 v] w (After W w G b A (.int .i64 1)) := by
  obtain ⟨F, c, cs, h1, h2, h3, h4⟩ := h
  exact (Go.Proofs.YtiafhcgaikapcaaGreat.store_bad h1 z y v hz).mono fun e w' hw => went_has h2 h3 h4 hw
theorem Has.flush {W w : World} {G : Nat → Prop} {b : Nat} {A : Mm} (h : Has W w G b A) (hok : A.ok 1000) (y z : Int) (q k : Nat) (ey : y = (q : Int)) (ez : z = (k : Int)) (hq : q < 8) (hk : k < A.n) :
    Calls Tryz.prog 125 #[.pointer (some ⟨b, 0, none⟩), .int .i64 y, .int .i64 z] w (After W w G b (A.flush q k) (.int .i64 A.err)) := by
  obtain ⟨F, c, cs, h1, h2, h3, h4⟩ := h
  exact (flush_any h1 hok y z q k ey ez hq hk).mono fun e w' hw => went_has h2 h3 h4 hw
theorem Has.flush_bad {W w : World} {G : Nat → Prop} {b : Nat} {A : Mm} (h : Has W w G b A) (y z : Int) (hz : ¬ ((0 ≤ y ∧ y < 8) ∧ (0 ≤ z ∧ z < A.n))) :
    Calls Tryz.prog 125 #[.pointer (some ⟨b, 0, none⟩), .int .i64 y, .int .i64 z] w (After W w G b A (.int .i64 1)) := by
  obtain ⟨F, c, cs, h1, h2, h3, h4⟩ := h
  exact (Go.Proofs.YtiafhcgaikapcaaGreat.flush_bad h1 y z hz).mono fun e w' hw => went_has h2 h3 h4 hw
theorem Has.fence {W w : World} {G : Nat → Prop} {b : Nat} {A : Mm} (h : Has W w G b A) (hok : A.ok 1000) (y : Int) (q : Nat) (ey : y = (q : Int)) (hq : q < 8) :
    Calls Tryz.prog 126 #[.pointer (some ⟨b, 0, none⟩), .int .i64 y] w (After W w G b (A.fence q) (.int .i64 A.err)) := by
  obtain ⟨F, c, cs, h1, h2, h3, h4⟩ := h
  exact (fence_any h1 hok y q ey hq).mono fun e w' hw => went_has h2 h3 h4 hw
theorem Has.fence_bad {W w : World} {G : Nat → Prop} {b : Nat} {A : Mm} (h : Has W w G b A) (y : Int) (hz : ¬ (0 ≤ y ∧ y < 8)) :
    Calls Tryz.prog 126 #[.pointer (some ⟨b, 0, none⟩), .int .i64 y] w (After W w G b A (.int .i64 1)) := by
  obtain ⟨F, c, cs, h1, h2, h3, h4⟩ := h
  exact (Go.Proofs.YtiafhcgaikapcaaGreat.fence_bad h1 y hz).mono fun e w' hw => went_has h2 h3 h4 hw
theorem Has.load {W w : World} {G : Nat → Prop} {b : Nat} {A : Mm} (h : Has W w G b A) (z : Int) (k : Nat) (ez : z = (k : Int)) (hk : k < A.n) (hon : A.on = true) (hn : A.n ≤ 1024) :
    Calls Tryz.prog 47 #[.pointer (some ⟨b, 0, none⟩), .int .i64 z] w (After W w G b A (.tuple #[.agg (lnV (A.l k).has), .int .i64 0])) := by
  obtain ⟨F, c, cs, h1, h2, h3, h4⟩ := h
  exact (load_any h1 z k ez hk hon hn).mono fun e w' hw => went_has h2 h3 h4 hw
theorem Has.load_bad {W w : World} {G : Nat → Prop} {b : Nat} {A : Mm} (h : Has W w G b A) (z : Int) (hz : ¬ (0 ≤ z ∧ z < A.n)) :
    Calls Tryz.prog 47 #[.pointer (some ⟨b, 0, none⟩), .int .i64 z] w (After W w G b A (.tuple #[.agg (lnV fun _ => 0), .int .i64 1])) := by
  obtain ⟨F, c, cs, h1, h2, h3, h4⟩ := h
  exact (Go.Proofs.YtiafhcgaikapcaaGreat.load_bad h1 z hz).mono fun e w' hw => went_has h2 h3 h4 hw
theorem Has.load_off {W w : World} {G : Nat → Prop} {b : Nat} {A : Mm} (h : Has W w G b A) (z : Int) (hz : 0 ≤ z ∧ z < A.n) (hon : A.on = false) :
    Calls Tryz.prog 47 #[.pointer (some ⟨b, 0, none⟩), .int .i64 z] w (After W w G b A (.tuple #[.agg (lnV fun _ => 0), .int .i64 4])) := by
  obtain ⟨F, c, cs, h1, h2, h3, h4⟩ := h
  exact (Go.Proofs.YtiafhcgaikapcaaGreat.load_off h1 z hz hon).mono fun e w' hw => went_has h2 h3 h4 hw
theorem Has.crash {W w : World} {G : Nat → Prop} {b : Nat} {A : Mm} (h : Has W w G b A) (hok : A.ok 1000) (a : Option Addr) (keep : List Int) (cap : Nat) (hr : ∀ z ∈ keep, In64 z) (hl : keep.length ≤ 9223372036854775807) (hi : IntsAt w a keep)
    (hap : ∀ x, a = some x → keep ≠ [] → x.block < W.heap.size ∨ G x.block) :
    Calls Tryz.prog 44 #[.pointer (some ⟨b, 0, none⟩), .slice a keep.length cap] w (After W w G b (A.crash keep) (.tuple #[])) := by
  obtain ⟨F, c, cs, h1, h2, h3, h4⟩ := h
  exact (crash_any h1 hok a keep cap hr hl hi (fun x hx hne hf => (hap x hx hne).elim (fun h => by have := h3 _ hf; omega) (fun h => (h4 _ h).1 hf))).mono fun e w' hw => went_has h2 h3 h4 hw
/-- By a row of ints that came in. -/
theorem Has.crash_arg {W w : World} {G : Nat → Prop} {b : Nat} {A : Mm} (h : Has W w G b A) (hok : A.ok 1000) (a : Option Addr) (keep : List Int) (cap : Nat) (hr : ∀ z ∈ keep, In64 z) (hl : keep.length ≤ 9223372036854775807) (hi : IntsAt W a keep) :
    Calls Tryz.prog 44 #[.pointer (some ⟨b, 0, none⟩), .slice a keep.length cap] w (After W w G b (A.crash keep) (.tuple #[])) := by
  refine h.crash hok a keep cap hr hl ?_ (fun x hx hne => Or.inl ?_)
  · rcases hi with e | ⟨y, off, e, hy⟩
    · exact Or.inl e
    · exact Or.inr ⟨y, off, e, fun i hi => h.keeps.cellOf (hy i hi) id⟩
  · rcases hi with e | ⟨y, off, e, hy⟩
    · exact absurd e hne
    · rw [hx] at e
      cases e
      have h0 : 0 < keep.length := List.length_pos_iff.2 hne
      exact World.block_lt_of_cell? W _ (hy 0 h0)
theorem Has.crash_nil {W w : World} {G : Nat → Prop} {b : Nat} {A : Mm} (h : Has W w G b A) (hok : A.ok 1000) :
    Calls Tryz.prog 44 #[.pointer (some ⟨b, 0, none⟩), .slice none 0 0] w (After W w G b (A.crash []) (.tuple #[])) :=
  h.crash hok none [] 0 (by simp) (by simp) (Or.inl rfl) (by simp)
theorem Has.fuse {W w : World} {G : Nat → Prop} {b : Nat} {A : Mm} (h : Has W w G b A) (z : Int) :
    Calls Tryz.prog 18 #[.pointer (some ⟨b, 0, none⟩), .int .i64 z] w (After W w G b (A.fused z) (.tuple #[])) := by
  obtain ⟨F, c, cs, h1, h2, h3, h4⟩ := h
  exact (fuse_any h1 z).mono fun e w' hw => went_has h2 h3 h4 ⟨hw.1, F, cs, hw.2.1, hw.2.2, Grew.refl _ _⟩
theorem Has.isOn {W w : World} {G : Nat → Prop} {b : Nat} {A : Mm} (h : Has W w G b A) :
    Calls Tryz.prog 43 #[.pointer (some ⟨b, 0, none⟩)] w fun e w' => e = .returned (.bool A.on) ∧ w' = w := by
  obtain ⟨F, c, cs, h1, h2, h3, h4⟩ := h
  exact on_any h1
theorem Has.steps {W w : World} {G : Nat → Prop} {b : Nat} {A : Mm} (h : Has W w G b A) :
    Calls Tryz.prog 38 #[.pointer (some ⟨b, 0, none⟩)] w fun e w' => e = .returned (.int .i64 (A.steps : Int)) ∧ w' = w := by
  obtain ⟨F, c, cs, h1, h2, h3, h4⟩ := h
  exact steps_any h1

/-! ### A line stored into a variable that was just laid -/
theorem store_line (f : Nat → Int) : ∀ (U : World) (C : Array Value), C.size = 8 → Sem.run Tryz.prog (storeCells ⟨U.heap.size, 0, none⟩ (lnV f).toList) (U.alloc (.cells C 83)) = .ok () (U.alloc (.cells (lnV f) 83)) :=
  fun U C hC => run_store_new _ _ rfl C _ _ (by rw [hC, lnV_size]) (lnV_one _)

/-! ### '==' on lines -/
def eqL (f g : Nat → Int) : Bool := (List.range 8).all fun j => f j == g j
theorem eqL_iff (f g : Nat → Int) : eqL f g = true ↔ ∀ j, j < 8 → f j = g j := by
  simp [eqL]
theorem eqL_refl (f : Nat → Int) : eqL f f = true := (eqL_iff _ _).2 fun _ _ => rfl
theorem line_guard : Tryz.prog.eqGuardType Tryz.prog.depth 83 = false := by kernel_rfl
theorem equal_lines (f g : Nat → Int) (w : World) : (Op.equalIn 10000 83 (.agg (lnV f)) (.agg (lnV g))).run Tryz.prog w = .ok (eqL f g) w := by
  have he : Tryz.prog.underlying 52 = some (.int .u64) := Tryz.underlying52
  have hp : ∀ (h : Nat → Int) (i : Nat), i < 8 → (part 52 (lnV h) (i * 1)).run Tryz.prog w = .ok (.int .u64 (h i)) w := fun h i hi => by
    have hagg : (isAgg 52).run Tryz.prog w = .ok false w := by
      unfold isAgg
      rw [Sem.run_bind, run_underlying he w]
      simp
    rw [Nat.mul_one]
    simp [part, Sem.run_bind, hagg, show (lnV h)[i]? = some (.int .u64 (h i)) from tab_get _ _ _ hi]
  exact run_equalIn_array w 9999 83 52 8 1 Tryz.underlying83 (by kernel_rfl) (lnV f) (lnV g) (fun i => .int .u64 (f i)) (fun i => .int .u64 (g i)) (fun i => f i == g i) (hp f) (hp g)
    (fun i _ => run_equalIn_int w 9998 52 .u64 .u64 _ _ he)

theorem wpList_eql {ops : Array Oper} {rest : List Oper} {o : Oper} {a : Act} {w : World} {Q : Exit → Act → World → Prop} (hw : Region.wanted o (yielded ops a.tmps) = true) (x y : Operand) (ho : o.op = .binOp .eql 83 x y 83)
    (f g : Nat → Int) (hx : a.eval x = .agg (lnV f)) (hy : a.eval y = .agg (lnV g)) (h : wpList Tryz.prog ops Q rest (a.put o.dst (.bool (eqL f g))) w) : wpList Tryz.prog ops Q (o :: rest) a w :=
  wpList_step fun K hK => by
    rw [if_pos hw]
    unfold Oper.wp execOp
    simp only [ho, hx, hy, Sem.run_bind, run_eqGuard_agg w .eql 83 x y (lnV f) (lnV g) line_guard, Result.andThen_ok, run_eql_struct, equal_lines, Sem.run_pure]
    exact hK _ _ h
theorem wpList_neq {ops : Array Oper} {rest : List Oper} {o : Oper} {a : Act} {w : World} {Q : Exit → Act → World → Prop} (hw : Region.wanted o (yielded ops a.tmps) = true) (x y : Operand) (ho : o.op = .binOp .neq 83 x y 83)
    (f g : Nat → Int) (hx : a.eval x = .agg (lnV f)) (hy : a.eval y = .agg (lnV g)) (h : wpList Tryz.prog ops Q rest (a.put o.dst (.bool (!eqL f g))) w) : wpList Tryz.prog ops Q (o :: rest) a w :=
  wpList_step fun K hK => by
    rw [if_pos hw]
    unfold Oper.wp execOp
    simp only [ho, hx, hy, Sem.run_bind, run_eqGuard_agg w .neq 83 x y (lnV f) (lnV g) line_guard, Result.andThen_ok, run_neq_struct, equal_lines, Sem.run_pure]
    exact hK _ _ h
theorem yieldsIf_neqL {ops : Array Oper} {S : World → Prop} {op : Oper} {a : Act} (hw : Region.wanted op (yielded ops a.tmps) = true) (x y : Operand) (ho : op.op = .binOp .neq 83 x y 83)
    (f g : Nat → Int) (hx : a.eval x = .agg (lnV f)) (hy : a.eval y = .agg (lnV g)) : YieldsIf Tryz.prog ops S op (.bool (!eqL f g)) a :=
  .inl ⟨hw, fun w _ => by
    unfold execOp
    simp only [ho, hx, hy, Sem.run_bind, run_eqGuard_agg w .neq 83 x y (lnV f) (lnV g) line_guard, Result.andThen_ok, run_neq_struct, equal_lines, Sem.run_pure]⟩
theorem wpList_buildL {ops : Array Oper} {rest : List Oper} {o : Oper} {a : Act} {w : World} {Q : Exit → Act → World → Prop} (hw : Region.wanted o (yielded ops a.tmps) = true) (parts : Array (Nat × Operand)) (ho : o.op = .build 83 parts) (g : Nat → Int)
    (hb : Tryz.prog.built 83 (parts.map fun p => (p.1, a.eval p.2)).toList = some (lnV g)) (h : wpList Tryz.prog ops Q rest (a.put o.dst (.agg (lnV g))) w) : wpList Tryz.prog ops Q (o :: rest) a w :=
  wpList_step fun K hK => by
    rw [if_pos hw]
    unfold Oper.wp execOp
    simp only [ho, Sem.run_bind, run_build w 83 _ _ hb, Result.andThen_ok]
    exact hK _ _ h

end Go.Proofs.YtiafhcgaikapcaaGreat


/-
  The document's examples, at the head of all statements: they answer true, and leave what was there as it was.
-/
namespace Go.Proofs.YtiafhcgaikapcaaGreat
open Go.ChangeShapes Go.WideShapes Go.ChangeAt Go.RowKit Go.Joins
set_option maxRecDepth 10000
set_option linter.unusedVariables false
set_option linter.unusedSimpArgs false

theorem in64_wf {z : Int} (h : (Lit.int .i64 z).wf = true) : In64 z := by
  simp [Lit.wf, IntKind.min, IntKind.max, IntKind.signed, IntKind.bits] at h; exact ⟨by omega, by omega⟩
theorem inU_wf {z : Int} (h : (Lit.int .u64 z).wf = true) : InU z := by
  simp [Lit.wf, IntKind.min, IntKind.max, IntKind.signed, IntKind.bits] at h; exact ⟨by omega, by omega⟩


end Go.Proofs.YtiafhcgaikapcaaGreat


/-
  What the statements' arguments are: rows of integers, rows of calls (steadfastlaw03.Op, each with a row of ints), rows of lines.
-/
namespace Go.Proofs.YtiafhcgaikapcaaGreat
open Go.ChangeShapes Go.WideShapes Go.ChangeAt Go.RowKit Go.Joins Go.Deep
set_option maxRecDepth 10000
set_option linter.unusedVariables false

/-- A row of integers where a slice leads. -/
def RowAt (W : World) (k : IntKind) (a : Option Addr) (zs : List Int) : Prop := zs = [] ∨ ∃ b off, a = some ⟨b, off, none⟩ ∧ ∀ i, i < zs.length → W.cell? ⟨b, off + i, none⟩ = some (.int k (zs.getD i 0))
def IsRow (W : World) (k : IntKind) (a : Option Addr) (zs : List Int) (n cap : Nat) : Prop := zs.length = n ∧ RowAt W k a zs ∧ (∀ z ∈ zs, (Lit.int k z).wf = true) ∧ n ≤ cap ∧ cap ≤ 9223372036854775807

theorem row_of_trod {H : Type} {enc : TypeId × Value → H} {P : Program} {t e : TypeId} {k : IntKind} (ht : P.underlying t = some (.slice e)) (he : P.underlying e = some (.int k)) (hc : P.cellsOf e = 1)
    {W : World} {fuel : Nat} {v : Value} {x : DataW H × List MemPlace} (hf : DataW.trod enc P W 0 (fun _ => true) true fuel t [v] = some x) :
    ∃ (a : Option Addr) (zs : List Int) (n cap : Nat), v = .slice a n cap ∧ IsRow W k a zs n cap := by
  rcases open_ints ht he hc hf with ⟨hcs, _⟩ | ⟨x, l, c, zs, hcs, _, hl, hm, hz, _, hcell, hwz⟩
  · simp at hcs
    subst hcs
    exact ⟨none, [], 0, 0, rfl, rfl, Or.inl rfl, by simp, Nat.le_refl _, by decide⟩
  · simp at hcs
    subst hcs
    have hz' : zs.length = c := by simpa using hz
    refine ⟨some x, zs.take l, l, c, rfl, by rw [List.length_take]; omega, ?_, fun z hz => hwz z (List.mem_of_mem_take hz), hl, by unfold maxLen at hm; exact hm⟩
    by_cases h0 : l = 0
    · left; rw [h0]; rfl
    · right
      obtain ⟨b, off, spot⟩ := x
      have hspot : spot = none := by simpa [Addr.add] using World.cell?_spot (hcell 0 (by omega))
      subst hspot
      refine ⟨b, off, rfl, fun i hi => ?_⟩
      have hi' : i < l := by rw [List.length_take] at hi; omega
      have := hcell i (by omega)
      rw [Addr.add_mid] at this
      rw [this, List.getD_eq_getElem?_getD, List.getD_eq_getElem?_getD, List.getElem?_take, if_pos hi']

theorem cells_slice (a : Option Addr) (n cap : Nat) : (Value.slice a n cap).cells.toList = [.slice a n cap] := rfl


theorem IsRow.keep {W : World} {a : Option Addr} {zs : List Int} {n cap : Nat} (h : IsRow W .i64 a zs n cap) : IntsAt W a zs ∧ (∀ z ∈ zs, In64 z) ∧ zs.length ≤ 9223372036854775807 :=
  ⟨h.2.1, fun z hz => in64_wf (h.2.2.1 z hz), by have := h.1; have := h.2.2.2; omega⟩

/-! ### Calls -/
structure OpV where
  kind : Int
  core : Int
  line : Int
  word : Int
  v : Int
  ka : Option Addr
  keep : List Int
  kcap : Nat
instance : Inhabited OpV := ⟨⟨0, 0, 0, 0, 0, none, [], 0⟩⟩
def OpV.cells (p : OpV) : List Value := [.int .i64 p.kind, .int .i64 p.core, .int .i64 p.line, .int .i64 p.word, .int .u64 p.v, .slice p.ka p.keep.length p.kcap]
def OpAt (W : World) (b o : Nat) (p : OpV) : Prop := W.rangeAt b o p.cells ∧ In64 p.kind ∧ In64 p.core ∧ In64 p.line ∧ In64 p.word ∧ InU p.v ∧ IntsAt W p.ka p.keep ∧ (∀ z ∈ p.keep, In64 z) ∧ p.keep.length ≤ 9223372036854775807
def OpsAt (W : World) (a : Option Addr) (n cap : Nat) (o : Nat → OpV) : Prop := n ≤ 9223372036854775807 ∧ (n = 0 ∨ ∃ b off, a = some ⟨b, off, none⟩ ∧ ∀ i, i < n → OpAt W b (off + i * 6) (o i))


end Go.Proofs.YtiafhcgaikapcaaGreat


/-
  What nvm's calls do for whatever arguments; a call (Op) read into a variable.
-/
namespace Go.Proofs.YtiafhcgaikapcaaGreat
open Go.ChangeShapes Go.WideShapes Go.ChangeAt Go.RowKit Go.Joins
set_option maxRecDepth 10000
set_option linter.unusedVariables false

def Mm.isZ (A : Mm) (z : Int) : Prop := 0 ≤ z ∧ z < A.n
def is8 (y : Int) : Prop := 0 ≤ y ∧ y < 8
instance (A : Mm) (z : Int) : Decidable (A.isZ z) := by unfold Mm.isZ; infer_instance
instance (y : Int) : Decidable (is8 y) := by unfold is8; infer_instance
def Mm.storeZ (A : Mm) (z y v : Int) : Mm := if A.isZ z ∧ is8 y then A.store z.toNat y.toNat v else A
def Mm.storeE (A : Mm) (z y : Int) : Int := if A.isZ z ∧ is8 y then A.err else 1
def Mm.flushZ (A : Mm) (y z : Int) : Mm := if is8 y ∧ A.isZ z then A.flush y.toNat z.toNat else A
def Mm.flushE (A : Mm) (y z : Int) : Int := if is8 y ∧ A.isZ z then A.err else 1
def Mm.fenceZ (A : Mm) (y : Int) : Mm := if is8 y then A.fence y.toNat else A
def Mm.fenceE (A : Mm) (y : Int) : Int := if is8 y then A.err else 1
def Mm.evictZ (A : Mm) (z y : Int) : Mm := if (A.isZ z ∧ 0 ≤ y) ∧ A.on = true then A.evict z.toNat y.toNat else A
def Mm.evictE (A : Mm) (z y : Int) : Int := if A.isZ z ∧ 0 ≤ y then if A.on = true then 0 else 4 else 1
def Mm.hasZ (A : Mm) (z : Int) : Nat → Int := if A.isZ z ∧ A.on = true then (A.l z.toNat).has else fun _ => 0
def Mm.loadE (A : Mm) (z : Int) : Int := if A.isZ z then if A.on = true then 0 else 4 else 1

theorem Has.storeZ {W w : World} {G : Nat → Prop} {b : Nat} {A : Mm} (h : Has W w G b A) (hok : A.ok 1000) (z y v : Int) :
    Calls Tryz.prog 72 #[.pointer (some ⟨b, 0, none⟩), .int .i64 z, .int .i64 y, .int .u64 v] w (After W w G b (A.storeZ z y v) (.int .i64 (A.storeE z y))) := by
  unfold Mm.storeZ Mm.storeE
  by_cases c : A.isZ z ∧ is8 y
  · rw [if_pos c, if_pos c]
    obtain ⟨⟨c1, c2⟩, c3, c4⟩ := c
    exact h.store hok z y z.toNat y.toNat (by omega) (by omega) (by omega) (by omega) v
  · rw [if_neg c, if_neg c]
    exact h.store_bad z y v c
theorem Has.flushZ {W w : World} {G : Nat → Prop} {b : Nat} {A : Mm} (h : Has W w G b A) (hok : A.ok 1000) (y z : Int) :
    Calls Tryz.prog 125 #[.pointer (some ⟨b, 0, none⟩), .int .i64 y, .int .i64 z] w (After W w G b (A.flushZ y z) (.int .i64 (A.flushE y z))) := by
  unfold Mm.flushZ Mm.flushE
  by_cases c : is8 y ∧ A.isZ z
  · rw [if_pos c, if_pos c]
    obtain ⟨⟨c1, c2⟩, c3, c4⟩ := c
    exact h.flush hok y z y.toNat z.toNat (by omega) (by omega) (by omega) (by omega)
  · rw [if_neg c, if_neg c]
    exact h.flush_bad y z c
theorem Has.fenceZ {W w : World} {G : Nat → Prop} {b : Nat} {A : Mm} (h : Has W w G b A) (hok : A.ok 1000) (y : Int) :
    Calls Tryz.prog 126 #[.pointer (some ⟨b, 0, none⟩), .int .i64 y] w (After W w G b (A.fenceZ y) (.int .i64 (A.fenceE y))) := by
  unfold Mm.fenceZ Mm.fenceE
  by_cases c : is8 y
  · rw [if_pos c, if_pos c]
    obtain ⟨c1, c2⟩ := c
    exact h.fence hok y y.toNat (by omega) (by omega)
  · rw [if_neg c, if_neg c]
    exact h.fence_bad y c
theorem Has.loadZ {W w : World} {G : Nat → Prop} {b : Nat} {A : Mm} (h : Has W w G b A) (hn : A.n ≤ 1024) (z : Int) :
    Calls Tryz.prog 47 #[.pointer (some ⟨b, 0, none⟩), .int .i64 z] w (After W w G b A (.tuple #[.agg (lnV (A.hasZ z)), .int .i64 (A.loadE z)])) := by
  unfold Mm.hasZ Mm.loadE
  by_cases c : A.isZ z
  · rw [if_pos c]
    by_cases on : A.on = true
    · rw [if_pos ⟨c, on⟩, if_pos on]
      obtain ⟨c1, c2⟩ := c
      exact h.load z z.toNat (by omega) (by omega) on hn
    · rw [if_neg (fun h => on h.2), if_neg on]
      exact h.load_off z c (by simpa using on)
  · rw [if_neg (fun h => c h.1), if_neg c]
    exact h.load_bad z c

theorem ok_storeZ {A : Mm} {B : Nat} (h : A.ok B) (z y v : Int) (hv : InU v) : (A.storeZ z y v).ok (B + 1) := by
  unfold Mm.storeZ
  split
  · rename_i c
    exact ok_store h _ _ _ (by have := c.2; unfold is8 at this; omega) hv
  · exact ok_mono h (by omega)
theorem ok_flushZ {A : Mm} {B : Nat} (h : A.ok B) (y z : Int) : (A.flushZ y z).ok (B + 1) := by
  unfold Mm.flushZ
  split
  · exact ok_flush h _ _
  · exact ok_mono h (by omega)
theorem ok_fenceZ {A : Mm} {B : Nat} (h : A.ok B) (y : Int) : (A.fenceZ y).ok (B + 1) := by
  unfold Mm.fenceZ
  split
  · exact ok_fence h _
  · exact ok_mono h (by omega)
theorem ok_evictZ {A : Mm} {B : Nat} (h : A.ok B) (z y : Int) : (A.evictZ z y).ok B := by
  unfold Mm.evictZ
  split
  · exact ok_evict h _ _
  · exact h

/-- Every step keeps how many lines there are. -/
theorem step_n (A : Mm) (l : Nat → Ln) : (A.step l).n = A.n := by unfold Mm.step; split <;> rfl
theorem storeZ_n (A : Mm) (z y v : Int) : (A.storeZ z y v).n = A.n := by unfold Mm.storeZ; split; exact step_n _ _; rfl
theorem flushZ_n (A : Mm) (y z : Int) : (A.flushZ y z).n = A.n := by unfold Mm.flushZ; split; exact step_n _ _; rfl
theorem fenceZ_n (A : Mm) (y : Int) : (A.fenceZ y).n = A.n := by unfold Mm.fenceZ; split; exact step_n _ _; rfl
theorem evictZ_n (A : Mm) (z y : Int) : (A.evictZ z y).n = A.n := by unfold Mm.evictZ; split <;> rfl

/-! ### A call, read into a variable -/
def opV (p : OpV) : Array Value := p.cells.toArray
theorem opV_size (p : OpV) : (opV p).size = 6 := rfl
theorem opV_one (p : OpV) : (opV p).all (·.oneCell') = true := by simp [opV, OpV.cells, Value.oneCell']
/-- The fields of a call that lies in a block of its own. -/
structure OpIn (w : World) (L : Nat) (p : OpV) : Prop where
  f0 : w.cell? ⟨L, 0, none⟩ = some (.int .i64 p.kind)
  f1 : w.cell? ⟨L, 1, none⟩ = some (.int .i64 p.core)
  f2 : w.cell? ⟨L, 2, none⟩ = some (.int .i64 p.line)
  f3 : w.cell? ⟨L, 3, none⟩ = some (.int .i64 p.word)
  f4 : w.cell? ⟨L, 4, none⟩ = some (.int .u64 p.v)
  f5 : w.cell? ⟨L, 5, none⟩ = some (.slice p.ka p.keep.length p.kcap)
theorem opIn_new (w : World) (p : OpV) (T : TypeId) : OpIn (w.alloc (.cells (opV p) T)) w.heap.size p := by
  constructor <;> (rw [cell_of_block (heap_new w _)]; rfl)
theorem opIn_block {w : World} {L : Nat} {p : OpV} {T : TypeId} (h : w.heap[L]? = some (.cells (opV p) T (0, 0))) : OpIn w L p := by
  constructor <;> (rw [cell_of_block h]; rfl)

end Go.Proofs.YtiafhcgaikapcaaGreat
