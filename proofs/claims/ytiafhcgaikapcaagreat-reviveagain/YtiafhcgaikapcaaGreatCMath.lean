
/-
  Plain mathematics of CRC-32's register, over natural numbers: a step, eight steps, a row of bytes; that it is linear over XOR, and that what differs stays different. No program.
-/
import Derived.Laws.BitsAllLaws
namespace Go.Proofs.YtiafhcgaikapcaaGreat

def poly : Nat := 3988292384
def stepN (r : Nat) : Nat := (r / 2) ^^^ (r % 2 * poly)
def stepsN : Nat → Nat → Nat
  | 0, r => r
  | n + 1, r => stepN (stepsN n r)
def takeN (r c : Nat) : Nat := stepsN 8 (r ^^^ c)
def regN (r : Nat) (bs : List Int) : Nat := bs.foldl (fun q c => takeN q c.toNat) r
def notN (r : Nat) : Nat := r ^^^ 4294967295
def moreN (s : Nat) (bs : List Int) : Nat := notN (regN (notN s) bs)
def moreI (s : Int) (bs : List Int) : Int := ((moreN s.toNat bs : Nat) : Int)
def sumI (bs : List Int) : Int := moreI 0 bs
def Bytes8 (bs : List Int) : Prop := ∀ z ∈ bs, 0 ≤ z ∧ z ≤ 255

theorem xor_lt32 {a b : Nat} (ha : a < 4294967296) (hb : b < 4294967296) : a ^^^ b < 4294967296 := by
  have := Nat.xor_lt_two_pow (n := 32) (x := a) (y := b) (by simpa using ha) (by simpa using hb)
  simpa using this
theorem xor_cancel (a b : Nat) : a ^^^ b ^^^ b = a := by rw [Nat.xor_assoc, Nat.xor_self, Nat.xor_zero]
theorem xor_zero_iff {a b : Nat} (h : a ^^^ b = 0) : a = b := by
  have : a ^^^ b ^^^ b = b := by rw [h, Nat.zero_xor]
  rw [xor_cancel] at this; exact this
theorem xor_inj {a b c : Nat} (h : a ^^^ c = b ^^^ c) : a = b := by
  have : a ^^^ c ^^^ c = b ^^^ c ^^^ c := by rw [h]
  rwa [xor_cancel, xor_cancel] at this
theorem xor4 (a b c d : Nat) : (a ^^^ b) ^^^ (c ^^^ d) = (a ^^^ c) ^^^ (b ^^^ d) := by
  rw [Nat.xor_assoc, Nat.xor_assoc, ← Nat.xor_assoc b c d, Nat.xor_comm b c, Nat.xor_assoc c b d]

theorem notN_lt {r : Nat} (h : r < 4294967296) : notN r < 4294967296 := xor_lt32 h (by decide)
theorem notN_notN (r : Nat) : notN (notN r) = r := xor_cancel r _
theorem notN_inj {a b : Nat} (h : notN a = notN b) : a = b := xor_inj h

theorem stepN_lt {r : Nat} (h : r < 4294967296) : stepN r < 4294967296 := by
  unfold stepN
  refine xor_lt32 (by omega) ?_
  have : r % 2 = 0 ∨ r % 2 = 1 := by omega
  rcases this with e | e <;> rw [e] <;> decide
theorem stepN_xor (a b : Nat) : stepN (a ^^^ b) = stepN a ^^^ stepN b := by
  unfold stepN
  rw [xor4]
  have h1 : (a ^^^ b) / 2 = a / 2 ^^^ b / 2 := by
    have := Nat.shiftRight_xor_distrib (a := a) (b := b) (i := 1)
    simpa [Nat.shiftRight_succ] using this
  have h2 : (a ^^^ b) % 2 * poly = (a % 2 * poly) ^^^ (b % 2 * poly) := by
    have hx : (a ^^^ b) % 2 = (a % 2) ^^^ (b % 2) := Nat.xor_mod_two_pow (n := 1)
    rw [hx]
    have ha : a % 2 = 0 ∨ a % 2 = 1 := by omega
    have hb : b % 2 = 0 ∨ b % 2 = 1 := by omega
    rcases ha with e | e <;> rcases hb with f | f <;> rw [e, f] <;> decide
  rw [h1, h2]
theorem stepN_zero {r : Nat} (h : r < 4294967296) (h0 : stepN r = 0) : r = 0 := by
  unfold stepN at h0
  have e := xor_zero_iff h0
  have : r % 2 = 0 ∨ r % 2 = 1 := by omega
  rcases this with f | f
  · rw [f] at e; omega
  · rw [f] at e; unfold poly at e; omega
theorem stepN_inj {a b : Nat} (ha : a < 4294967296) (hb : b < 4294967296) (h : stepN a = stepN b) : a = b := by
  apply xor_zero_iff
  apply stepN_zero (xor_lt32 ha hb)
  rw [stepN_xor, h, Nat.xor_self]

theorem stepsN_lt {r : Nat} (h : r < 4294967296) : ∀ n, stepsN n r < 4294967296
  | 0 => h
  | n + 1 => stepN_lt (stepsN_lt h n)
theorem stepsN_xor (a b : Nat) : ∀ n, stepsN n (a ^^^ b) = stepsN n a ^^^ stepsN n b
  | 0 => rfl
  | n + 1 => by unfold stepsN; rw [stepsN_xor a b n, stepN_xor]
theorem stepsN_inj {a b : Nat} (ha : a < 4294967296) (hb : b < 4294967296) : ∀ n, stepsN n a = stepsN n b → a = b
  | 0, h => h
  | n + 1, h => stepsN_inj ha hb n (stepN_inj (stepsN_lt ha n) (stepsN_lt hb n) h)

theorem takeN_lt {r c : Nat} (h : r < 4294967296) (hc : c < 256) : takeN r c < 4294967296 := stepsN_lt (xor_lt32 h (by omega)) 8
theorem takeN_inj {a b c : Nat} (ha : a < 4294967296) (hb : b < 4294967296) (hc : c < 256) (h : takeN a c = takeN b c) : a = b :=
  xor_inj (stepsN_inj (xor_lt32 ha (by omega)) (xor_lt32 hb (by omega)) 8 h)
theorem takeN_inj2 {r c d : Nat} (hr : r < 4294967296) (hc : c < 256) (hd : d < 256) (h : takeN r c = takeN r d) : c = d := by
  have := stepsN_inj (xor_lt32 hr (by omega)) (xor_lt32 hr (by omega)) 8 h
  rw [Nat.xor_comm r, Nat.xor_comm r] at this
  exact xor_inj this

theorem b8_cons {z : Int} {bs : List Int} (h : Bytes8 (z :: bs)) : (0 ≤ z ∧ z ≤ 255) ∧ Bytes8 bs := ⟨h z (by simp), fun y hy => h y (by simp [hy])⟩
theorem b8_get {bs : List Int} (h : Bytes8 bs) (j : Nat) : 0 ≤ bs.getD j 0 ∧ bs.getD j 0 ≤ 255 := by
  rw [List.getD_eq_getElem?_getD]
  by_cases hj : j < bs.length
  · rw [List.getElem?_eq_getElem hj]; exact h _ (List.getElem_mem hj)
  · rw [List.getElem?_eq_none (by omega)]; simp
theorem b8_take {bs : List Int} (h : Bytes8 bs) (n : Nat) : Bytes8 (bs.take n) := fun z hz => h z (List.mem_of_mem_take hz)
theorem b8_drop {bs : List Int} (h : Bytes8 bs) (n : Nat) : Bytes8 (bs.drop n) := fun z hz => h z (List.mem_of_mem_drop hz)
theorem b8_append {as bs : List Int} (h : Bytes8 as) (h2 : Bytes8 bs) : Bytes8 (as ++ bs) := fun z hz => by
  rcases List.mem_append.1 hz with h' | h'
  · exact h z h'
  · exact h2 z h'

theorem regN_lt : ∀ (bs : List Int) {r : Nat}, Bytes8 bs → r < 4294967296 → regN r bs < 4294967296
  | [], _, _, h => h
  | z :: bs, r, hb, h => by
    obtain ⟨hz, hb'⟩ := b8_cons hb
    exact regN_lt bs hb' (takeN_lt h (by omega))
theorem regN_append (r : Nat) (as bs : List Int) : regN r (as ++ bs) = regN (regN r as) bs := by unfold regN; rw [List.foldl_append]
theorem regN_snoc (r : Nat) (bs : List Int) (k : Nat) (h : k < bs.length) : regN r (bs.take (k + 1)) = takeN (regN r (bs.take k)) (bs.getD k 0).toNat := by
  rw [List.take_succ_eq_append_getElem h, regN_append, List.getD_eq_getElem?_getD, List.getElem?_eq_getElem h]; rfl
theorem regN_inj : ∀ (bs : List Int) {a b : Nat}, Bytes8 bs → a < 4294967296 → b < 4294967296 → regN a bs = regN b bs → a = b
  | [], _, _, _, _, _, h => h
  | z :: bs, a, b, hb8, ha, hb, h => by
    obtain ⟨hz, hb'⟩ := b8_cons hb8
    exact takeN_inj ha hb (by omega) (regN_inj bs hb' (takeN_lt ha (by omega)) (takeN_lt hb (by omega)) h)

/-- One byte turned: the register is another one. -/
theorem regN_turn {r : Nat} (hr : r < 4294967296) (bs : List Int) (hb : Bytes8 bs) (k : Nat) (hk : k < bs.length) (z : Int) (hz : 0 ≤ z ∧ z ≤ 255) (h : regN r (bs.set k z) = regN r bs) : z = bs.getD k 0 := by
  have e1 : bs.set k z = bs.take k ++ (z :: bs.drop (k + 1)) := List.set_eq_take_append_cons_drop ▸ by rw [if_pos hk]
  have e2 : bs = bs.take k ++ (bs.getD k 0 :: bs.drop (k + 1)) := by
    rw [List.getD_eq_getElem?_getD, List.getElem?_eq_getElem hk]
    show bs = bs.take k ++ (bs[k] :: bs.drop (k + 1))
    rw [List.getElem_cons_drop, List.take_append_drop]
  have hg := b8_get hb k
  have hp := regN_lt _ (b8_take hb k) hr
  rw [e1] at h
  conv at h => rhs; rw [e2]
  rw [regN_append, regN_append] at h
  have h' : regN (takeN (regN r (bs.take k)) z.toNat) (bs.drop (k + 1)) = regN (takeN (regN r (bs.take k)) (bs.getD k 0).toNat) (bs.drop (k + 1)) := h
  have := takeN_inj2 hp (by omega) (by omega) (regN_inj _ (b8_drop hb _) (takeN_lt hp (by omega)) (takeN_lt hp (by omega)) h')
  omega

theorem moreN_lt {s : Nat} {bs : List Int} (hb : Bytes8 bs) (h : s < 4294967296) : moreN s bs < 4294967296 := notN_lt (regN_lt _ hb (notN_lt h))
theorem moreI_bd {s : Int} {bs : List Int} (hb : Bytes8 bs) (h0 : 0 ≤ s) (h : s ≤ 4294967295) : 0 ≤ moreI s bs ∧ moreI s bs ≤ 4294967295 := by
  have := moreN_lt (s := s.toNat) hb (by omega)
  unfold moreI; omega
theorem sumI_bd {bs : List Int} (hb : Bytes8 bs) : 0 ≤ sumI bs ∧ sumI bs ≤ 4294967295 := moreI_bd hb (by decide) (by decide)
theorem moreN_append (s : Nat) (as bs : List Int) : moreN (moreN s as) bs = moreN s (as ++ bs) := by
  unfold moreN
  rw [notN_notN, regN_append]
theorem moreN_nil (s : Nat) : moreN s [] = s := notN_notN s
theorem moreI_append (s : Int) (as bs : List Int) : moreI (moreI s as) bs = moreI s (as ++ bs) := by
  unfold moreI
  rw [Int.toNat_natCast]
  unfold moreN
  rw [notN_notN, regN_append]
theorem moreI_nil (s : Int) (h0 : 0 ≤ s) : moreI s [] = s := by
  unfold moreI moreN
  show ((notN (notN s.toNat) : Nat) : Int) = s
  rw [notN_notN]; omega
theorem sumI_turn (bs : List Int) (hb : Bytes8 bs) (k : Nat) (hk : k < bs.length) (z : Int) (hz : 0 ≤ z ∧ z ≤ 255) (h : sumI (bs.set k z) = sumI bs) : z = bs.getD k 0 := by
  unfold sumI moreI moreN at h
  exact regN_turn (r := notN (0 : Int).toNat) (by decide) bs hb k hk z hz (notN_inj (by omega))

def xor3 (as bs cs : List Int) : Nat → List Int
  | 0 => []
  | n + 1 => xor3 as bs cs n ++ [(((as.getD n 0).toNat ^^^ (bs.getD n 0).toNat ^^^ (cs.getD n 0).toNat : Nat) : Int)]
theorem xor3_len (as bs cs : List Int) : ∀ n, (xor3 as bs cs n).length = n
  | 0 => rfl
  | n + 1 => by simp [xor3, xor3_len as bs cs n]
theorem xor_lt8 {a b : Nat} (ha : a < 256) (hb : b < 256) : a ^^^ b < 256 := by
  have := Nat.xor_lt_two_pow (n := 8) (x := a) (y := b) (by simpa using ha) (by simpa using hb)
  simpa using this
theorem xor3_b8 {as bs cs : List Int} (ha : Bytes8 as) (hb : Bytes8 bs) (hc : Bytes8 cs) : ∀ n, Bytes8 (xor3 as bs cs n)
  | 0 => fun z hz => by simp [xor3] at hz
  | n + 1 => b8_append (xor3_b8 ha hb hc n) fun z hz => by
    have h1 := b8_get ha n
    have h2 := b8_get hb n
    have h3 := b8_get hc n
    simp only [List.mem_singleton] at hz
    have := xor_lt8 (xor_lt8 (a := (as.getD n 0).toNat) (b := (bs.getD n 0).toNat) (by omega) (by omega)) (b := (cs.getD n 0).toNat) (by omega)
    omega
theorem xor8_three {x y z : Int} (hx : 0 ≤ x ∧ x ≤ 255) (hy : 0 ≤ y ∧ y ≤ 255) (hz : 0 ≤ z ∧ z ≤ 255) : bits .xor .u8 (bits .xor .u8 x y) z = ((x.toNat ^^^ y.toNat ^^^ z.toNat : Nat) : Int) := by
  rw [u8_xor x y hx.1 (by omega) hy.1 (by omega)]
  have := xor_lt8 (a := x.toNat) (b := y.toNat) (by omega) (by omega)
  rw [u8_xor _ z (by omega) (by omega) hz.1 (by omega), Int.toNat_natCast]
theorem takeN_xor3 (r s t a b c : Nat) : takeN (r ^^^ s ^^^ t) (a ^^^ b ^^^ c) = takeN r a ^^^ takeN s b ^^^ takeN t c := by
  unfold takeN
  rw [← stepsN_xor, ← stepsN_xor, xor4 (r ^^^ s) t, xor4 r s]
theorem regN_xor3 (as bs cs : List Int) (r s t : Nat) : ∀ n, n ≤ as.length → n ≤ bs.length → n ≤ cs.length →
    regN (r ^^^ s ^^^ t) (xor3 as bs cs n) = regN r (as.take n) ^^^ regN s (bs.take n) ^^^ regN t (cs.take n)
  | 0, _, _, _ => by simp [xor3, regN]
  | n + 1, h1, h2, h3 => by
    rw [xor3, regN_append, regN_xor3 as bs cs r s t n (by omega) (by omega) (by omega), regN_snoc _ _ _ (by omega), regN_snoc _ _ _ (by omega), regN_snoc _ _ _ (by omega), ← takeN_xor3]
    show takeN _ _ = takeN _ _
    rw [Int.toNat_natCast]
theorem sum_xor3 (as bs cs : List Int) (n : Nat) (h1 : n ≤ as.length) (h2 : n ≤ bs.length) (h3 : n ≤ cs.length) :
    moreN 0 (as.take n) ^^^ moreN 0 (bs.take n) ^^^ moreN 0 (cs.take n) = moreN 0 (xor3 as bs cs n) := by
  unfold moreN
  have e : notN 0 = notN 0 ^^^ notN 0 ^^^ notN 0 := by decide
  conv => rhs; rw [e, regN_xor3 as bs cs _ _ _ n h1 h2 h3]
  unfold notN
  rw [xor4 (regN (0 ^^^ 4294967295) (as.take n)), xor4 (regN (0 ^^^ 4294967295) (as.take n) ^^^ _)]
  congr 1

theorem step_eq (s : Nat) (hs : s < 4294967296) : bits .xor .u32 ((s : Int) / 2) (bits .and .u32 (s : Int) 1 * 3988292384 % 4294967296) = ((stepN s : Nat) : Int) := by
  have e1 : bits .and .u32 (s : Int) 1 = ((s % 2 : Nat) : Int) := by
    have := u32_and_nat s 1 hs (by decide)
    rw [nat_mask1] at this; exact this
  have h2 : s % 2 = 0 ∨ s % 2 = 1 := by omega
  have e2 : ((s % 2 : Nat) : Int) * 3988292384 % 4294967296 = ((s % 2 * poly : Nat) : Int) := by
    rcases h2 with e | e <;> rw [e] <;> decide
  have e3 : (s : Int) / 2 = ((s / 2 : Nat) : Int) := by simp
  rw [e1, e2, e3, u32_xor_nat _ _ (by omega) (by rcases h2 with e | e <;> rw [e] <;> decide)]
  rfl
theorem step_one (s : Nat) (hs : s < 4294967296) (h : s % 2 = 1) : bits .xor .u32 ((s : Int) / 2) 3988292384 = ((stepN s : Nat) : Int) := by
  have e3 : (s : Int) / 2 = ((s / 2 : Nat) : Int) := by simp
  have := u32_xor_nat (s / 2) 3988292384 (by omega) (by decide)
  rw [e3]
  refine this.trans ?_
  unfold stepN
  rw [h, Nat.one_mul]; rfl
theorem step_nil (s : Nat) (h : s % 2 = 0) : (s : Int) / 2 = ((stepN s : Nat) : Int) := by
  unfold stepN
  rw [h, Nat.zero_mul, Nat.xor_zero]; simp
theorem and_one (s : Nat) (hs : s < 4294967296) : bits .and .u32 (s : Int) 1 = ((s % 2 : Nat) : Int) := by
  have := u32_and_nat s 1 hs (by decide)
  rw [nat_mask1] at this; exact this

theorem not_eq (s : Nat) (hs : s < 4294967296) : bits .xor .u32 IntKind.u32.max (s : Int) = ((notN s : Nat) : Int) := by
  have e : IntKind.u32.max = ((4294967295 : Nat) : Int) := by decide
  rw [e, u32_xor_nat _ _ (by decide) hs, Nat.xor_comm]
  rfl

theorem sum_123456789 : sumI [49, 50, 51, 52, 53, 54, 55, 56, 57] = 3421780262 := by decide +kernel
theorem sum_none : sumI [] = 0 := by decide +kernel
theorem more_56789 : moreI (sumI [49, 50, 51, 52]) [53, 54, 55, 56, 57] = 3421780262 := by decide +kernel

end Go.Proofs.YtiafhcgaikapcaaGreat
