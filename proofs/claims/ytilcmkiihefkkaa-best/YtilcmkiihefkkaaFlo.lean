import Derived.Laws.FloatArith
namespace Go.Proofs.Ytilcmkiihefkkaa
open Ieee

/-- The word of a number of quarters. -/
def fq (q : Int) : Nat := double.nearest (decide (q < 0)) q.natAbs (-2)

theorem log2_shift (m a : Nat) (hm : m ≠ 0) : (m * 2 ^ a).log2 = m.log2 + a := by
  have h1 : m * 2 ^ a ≠ 0 := Nat.mul_ne_zero hm (by have := Nat.two_pow_pos a; omega)
  rw [Nat.log2_eq_iff h1]
  have h2 := (Nat.log2_eq_iff (k := m.log2) hm).1 rfl
  refine ⟨?_, ?_⟩
  · rw [Nat.pow_add]; exact Nat.mul_le_mul_right _ h2.1
  · rw [show m.log2 + a + 1 = (m.log2 + 1) + a by omega, Nat.pow_add]
    exact Nat.mul_lt_mul_of_pos_right h2.2 (Nat.two_pow_pos a)

theorem log2_lt53 (m : Nat) (hm : m ≠ 0) (h : m < 2 ^ 53) : m.log2 ≤ 52 := by
  have := (Nat.log2_lt hm).2 h
  omega

theorem cut_exact (neg : Bool) (m D : Nat) (hm : m ≠ 0) : Toward.even.cut neg (m * 2 ^ D) D = m := by
  have h1 : (m * 2 ^ D).log2 = m.log2 + D := log2_shift m D hm
  have h2 : min D ((m * 2 ^ D).log2 + 2) = D := by rw [h1]; omega
  have hp := Nat.two_pow_pos D
  unfold Toward.cut
  simp only [h2, Nat.one_shiftLeft, Nat.mul_mod_left, Nat.mul_div_cancel _ hp]
  have e1 : decide (2 ^ D < 2 * 0) = false := by simp
  have e2 : (2 ^ D == 2 * 0) = false := by
    simp only [Nat.mul_zero, beq_eq_false_iff_ne]; omega
  rw [e1, e2]; rfl

/-- What is to be written exactly: by its last digit or by any place below. -/
theorem nearest_exact (neg : Bool) (m a : Nat) (e : Int) (hm : m ≠ 0) (h : m < 2 ^ 53) (he : -900 ≤ e) (he2 : e ≤ 900) :
    double.nearest neg (m * 2 ^ a) (e - a) = double.word neg ((e + m.log2 - 52 + 1074).toNat * 2 ^ 52 + m * 2 ^ (52 - m.log2)) := by
  have h1 : m * 2 ^ a ≠ 0 := Nat.mul_ne_zero hm (by have := Nat.two_pow_pos a; omega)
  have hl := log2_lt53 m hm h
  have hL := log2_shift m a hm
  have hlp : double.leastPlace = -1074 := by decide
  have hb : double.binade = 2 ^ 52 := rfl
  have hf : double.fractionBits = 52 := rfl
  have hi : double.infRung = 2047 * 2 ^ 52 := rfl
  unfold Format.nearest
  rw [if_neg h1]
  simp only [hlp, hb, hL, hf, hi]
  have hlast : max (e - (a : Int) + ((m.log2 + a : Nat) : Int) - ((52 : Nat) : Int)) (-1074) = e + m.log2 - 52 := by omega
  rw [hlast]
  have hkept : Toward.even.cut neg ((m * 2 ^ a) <<< (e - (a : Int) - (e + m.log2 - 52)).toNat) (e + m.log2 - 52 - (e - (a : Int))).toNat = m * 2 ^ (52 - m.log2) := by
    by_cases ha : a ≤ 52 - m.log2
    · have e1 : (e - (a : Int) - (e + m.log2 - 52)).toNat = 52 - m.log2 - a := by omega
      have e2 : (e + m.log2 - 52 - (e - (a : Int))).toNat = 0 := by omega
      rw [e1, e2, Nat.shiftLeft_eq, Nat.mul_assoc, ← Nat.pow_add, show a + (52 - m.log2 - a) = 52 - m.log2 by omega]
      have hne : m * 2 ^ (52 - m.log2) ≠ 0 := Nat.mul_ne_zero hm (by have := Nat.two_pow_pos (52 - m.log2); omega)
      have := cut_exact neg (m * 2 ^ (52 - m.log2)) 0 hne
      simpa using this
    · have e1 : (e - (a : Int) - (e + m.log2 - 52)).toNat = 0 := by omega
      have e2 : (e + m.log2 - 52 - (e - (a : Int))).toNat = a - (52 - m.log2) := by omega
      rw [e1, e2, Nat.shiftLeft_zero]
      have e3 : m * 2 ^ a = m * 2 ^ (52 - m.log2) * 2 ^ (a - (52 - m.log2)) := by
        rw [Nat.mul_assoc, ← Nat.pow_add, show 52 - m.log2 + (a - (52 - m.log2)) = a by omega]
      rw [e3]
      exact cut_exact neg _ _ (Nat.mul_ne_zero hm (by have := Nat.two_pow_pos (52 - m.log2); omega))
  rw [hkept]
  have hM : m * 2 ^ (52 - m.log2) < 2 ^ 53 := by
    have h2 := ((Nat.log2_eq_iff (k := m.log2) hm).1 rfl).2
    calc m * 2 ^ (52 - m.log2) < 2 ^ (m.log2 + 1) * 2 ^ (52 - m.log2) := Nat.mul_lt_mul_of_pos_right h2 (Nat.two_pow_pos _)
      _ = 2 ^ 53 := by rw [← Nat.pow_add, show m.log2 + 1 + (52 - m.log2) = 53 by omega]
  have e4 : (e + m.log2 - 52 - -1074).toNat = (e + m.log2 - 52 + 1074).toNat := by omega
  rw [e4, Nat.min_eq_left]
  have : (e + m.log2 - 52 + 1074).toNat ≤ 1974 := by omega
  have h53 : (2:Nat) ^ 53 = 2 * 2 ^ 52 := by decide
  have h7 : (e + m.log2 - 52 + 1074).toNat * 2 ^ 52 ≤ 1974 * 2 ^ 52 := Nat.mul_le_mul_right _ this
  rw [h53] at hM
  generalize (2:Nat) ^ 52 = P at *
  generalize (e + m.log2 - 52 + 1074).toNat * P = X at *
  omega

theorem read_exact (neg : Bool) (E M : Nat) (h1 : 2 ^ 52 ≤ M) (h2 : M < 2 ^ 53) (hE : E ≤ 2000) :
    double.read (double.word neg (E * 2 ^ 52 + M)) = .number neg M (-1074 + E) := by
  have hlp : double.leastPlace = -1074 := by decide
  have hb : double.binade = 2 ^ 52 := rfl
  have hi : double.infRung = 2047 * 2 ^ 52 := rfl
  have hs : double.signWeight = 2 ^ 63 := rfl
  have h53 : (2:Nat) ^ 53 = 2 * 2 ^ 52 := by decide
  have h63 : (2:Nat) ^ 63 = 2048 * 2 ^ 52 := by decide
  have hE' : E * 2 ^ 52 ≤ 2000 * 2 ^ 52 := Nat.mul_le_mul_right _ hE
  generalize hP : (2:Nat) ^ 52 = P at *
  have hPp : 0 < P := by rw [← hP]; exact Nat.two_pow_pos _
  have hr : E * P + M < 2048 * P := by omega
  have e1 : ((double.word neg (E * P + M)) / double.signWeight % 2 == 1) = neg := by
    unfold Format.word
    rw [hs, h63]
    cases neg
    · simp [Nat.div_eq_of_lt hr]
    · simp only [if_true]
      rw [show 2048 * P + (E * P + M) = (E * P + M) + 1 * (2048 * P) by omega, Nat.add_mul_div_right _ _ (by omega), Nat.div_eq_of_lt hr]
      rfl
  have e2 : (double.word neg (E * P + M)) % double.signWeight = E * P + M := by
    unfold Format.word
    rw [hs, h63]
    cases neg
    · simp [Nat.mod_eq_of_lt hr]
    · simp only [if_true]
      rw [show 2048 * P + (E * P + M) = (E * P + M) + 1 * (2048 * P) by omega, Nat.add_mul_mod_self_right, Nat.mod_eq_of_lt hr]
  unfold Format.read
  simp only [e1, e2, hb, hi, hlp]
  rw [if_neg (by omega), if_pos (by omega)]
  have e3 : E * P + M = (M - P) + (E + 1) * P := by rw [Nat.add_mul]; omega
  have e4 : (E * P + M) % P = M - P := by
    rw [e3, Nat.add_mul_mod_self_right, Nat.mod_eq_of_lt (by omega)]
  have e5 : (E * P + M) / P = E + 1 := by
    rw [e3, Nat.add_mul_div_right _ _ hPp, Nat.div_eq_of_lt (by omega)]; omega
  rw [e4, e5]
  congr 1
  omega

/-- What a number of quarters stands for. -/
theorem read_fq (q : Int) (h : q.natAbs < 2 ^ 53) : ∃ a : Nat, double.read (fq q) = .number (decide (q < 0)) (q.natAbs * 2 ^ a) (-2 - a) := by
  by_cases h0 : q = 0
  · subst h0
    have key : ∀ a : Nat, a = 1072 → double.read (fq 0) = .number (decide ((0:Int) < 0)) ((0:Int).natAbs * 2 ^ a) (-2 - a) := by
      intro a ha
      have e0 : fq 0 = 0 := by decide
      have e1 : (-2 - (a : Int)) = -1074 := by omega
      rw [e1, e0, Int.natAbs_zero, Nat.zero_mul]
      decide
    exact ⟨1072, key 1072 rfl⟩
  · have hm : q.natAbs ≠ 0 := by omega
    have hx := nearest_exact (decide (q < 0)) q.natAbs 0 (-2) hm h (by omega) (by omega)
    simp only [Nat.pow_zero, Nat.mul_one, Int.natCast_zero, Int.sub_zero] at hx
    have hl := log2_lt53 _ hm h
    have h2 := (Nat.log2_eq_iff (k := q.natAbs.log2) hm).1 rfl
    refine ⟨52 - q.natAbs.log2, ?_⟩
    unfold fq
    rw [hx, read_exact]
    · congr 1; omega
    · calc 2 ^ 52 = 2 ^ q.natAbs.log2 * 2 ^ (52 - q.natAbs.log2) := by rw [← Nat.pow_add, show q.natAbs.log2 + (52 - q.natAbs.log2) = 52 by omega]
        _ ≤ _ := Nat.mul_le_mul_right _ h2.1
    · calc q.natAbs * 2 ^ (52 - q.natAbs.log2) < 2 ^ (q.natAbs.log2 + 1) * 2 ^ (52 - q.natAbs.log2) := Nat.mul_lt_mul_of_pos_right h2.2 (Nat.two_pow_pos _)
        _ = 2 ^ 53 := by rw [← Nat.pow_add, show q.natAbs.log2 + 1 + (52 - q.natAbs.log2) = 53 by omega]
    · omega

/-- Written again: any number of quarters, by whatever place. -/
theorem write_fq (q : Int) (a : Nat) (h : q.natAbs < 2 ^ 53) : double.nearest (decide (q < 0)) (q.natAbs * 2 ^ a) (-2 - a) = fq q := by
  by_cases h0 : q = 0
  · subst h0
    unfold fq Format.nearest
    simp
  · have hm : q.natAbs ≠ 0 := by omega
    have h1 := nearest_exact (decide (q < 0)) q.natAbs 0 (-2) hm h (by omega) (by omega)
    have h2 := nearest_exact (decide (q < 0)) q.natAbs a (-2) hm h (by omega) (by omega)
    simp only [Nat.pow_zero, Nat.mul_one, Int.natCast_zero, Int.sub_zero] at h1
    unfold fq
    rw [h1, h2]

theorem signed_q (q : Int) (a up c : Nat) (hc : a + up = c) : signed (decide (q < 0)) (q.natAbs * 2 ^ a) up = q * 2 ^ c := by
  unfold signed
  rw [Nat.shiftLeft_eq, Nat.mul_assoc, ← Nat.pow_add, hc]
  by_cases h : q < 0
  · simp only [h, decide_true, if_true]
    have : q = -(q.natAbs : Int) := by omega
    rw [Int.natCast_mul, Int.natCast_pow]
    conv => rhs; rw [this]
    rw [Int.neg_mul]; rfl
  · simp only [h, decide_false]
    have : q = (q.natAbs : Int) := by omega
    rw [Int.natCast_mul, Int.natCast_pow]
    conv => rhs; rw [this]
    rfl

theorem signed_not (s : Bool) (m up : Nat) : signed (!s) m up = - signed s m up := by
  unfold signed; cases s <;> simp

theorem sum_q (q r : Int) (a b : Nat) (t : Bool) (n : Nat) (hs : ∀ up c, b + up = c → signed t n up = r * 2 ^ c) (ht : q + r = 0 → (decide (q < 0) && t) = false) (h : (q + r).natAbs < 2 ^ 53) :
    (Datum.sum (.number (decide (q < 0)) (q.natAbs * 2 ^ a) (-2 - a)) (.number t n (-2 - b))).map double.write = some (fq (q + r)) := by
  have e0 : min (-2 - (a : Int)) (-2 - (b : Int)) = -2 - ((max a b : Nat) : Int) := by omega
  have e1 : (-2 - (a : Int) - (-2 - ((max a b : Nat) : Int))).toNat = max a b - a := by omega
  have e2 : (-2 - (b : Int) - (-2 - ((max a b : Nat) : Int))).toNat = max a b - b := by omega
  unfold Datum.sum
  simp only [e0, e1, e2]
  rw [signed_q q a _ (max a b) (by omega), hs _ (max a b) (by omega), ← Int.add_mul]
  have hp : (0 : Int) < 2 ^ max a b := by exact_mod_cast Nat.two_pow_pos (max a b)
  have z : ((q + r) * 2 ^ max a b = 0) ↔ q + r = 0 := by
    rw [Int.mul_eq_zero]
    exact ⟨fun h => h.elim id (fun h => by omega), Or.inl⟩
  have l : ((q + r) * 2 ^ max a b < 0) ↔ q + r < 0 := by
    constructor
    · intro h
      by_cases hx : q + r < 0
      · exact hx
      · have := Int.mul_nonneg (show 0 ≤ q + r by omega) (Int.le_of_lt hp)
        omega
    · intro h; exact Int.mul_neg_of_neg_of_pos h hp
  have hn : ((q + r) * 2 ^ max a b).natAbs = (q + r).natAbs * 2 ^ max a b := by
    rw [Int.natAbs_mul, Int.natAbs_pow]; rfl
  simp only [Option.map_some, Format.write, hn, z, l]
  congr 1
  by_cases h0 : q + r = 0
  · rw [if_pos h0, ht h0, h0]
    unfold fq Format.nearest
    simp
  · rw [if_neg h0]
    exact write_fq _ _ h

theorem add_fq (q r : Int) (h1 : q.natAbs < 2 ^ 53) (h2 : r.natAbs < 2 ^ 53) (h : (q + r).natAbs < 2 ^ 53) : floatBits .add .f64 (fq q) (fq r) = some (fq (q + r)) := by
  obtain ⟨a, ha⟩ := read_fq q h1
  obtain ⟨b, hb⟩ := read_fq r h2
  show ((double.read (fq q)).sum (double.read (fq r))).map double.write = _
  rw [ha, hb]
  refine sum_q q r a b _ _ (fun up c hc => signed_q r b up c hc) ?_ h
  intro h0
  by_cases hq : q < 0
  · have : ¬ r < 0 := by omega
    simp [this]
  · simp [hq]

theorem sub_fq (q r : Int) (h1 : q.natAbs < 2 ^ 53) (h2 : r.natAbs < 2 ^ 53) (h : (q - r).natAbs < 2 ^ 53) : floatBits .sub .f64 (fq q) (fq r) = some (fq (q - r)) := by
  obtain ⟨a, ha⟩ := read_fq q h1
  obtain ⟨b, hb⟩ := read_fq r h2
  show ((double.read (fq q)).sum (double.read (fq r)).opposite).map double.write = _
  rw [ha, hb]
  have := sum_q q (-r) a b (!(decide (r < 0))) (r.natAbs * 2 ^ b) (fun up c hc => by rw [signed_not, signed_q r b up c hc, Int.neg_mul]) ?_ (by rwa [← Int.sub_eq_add_neg])
  · rw [Int.sub_eq_add_neg]; exact this
  · intro h0
    by_cases hq : q < 0
    · have : r < 0 := by omega
      simp [this]
    · simp [hq]

theorem order_fq (q r : Int) (h1 : q.natAbs < 2 ^ 53) (h2 : r.natAbs < 2 ^ 53) : double.order (fq q) (fq r) = some (compare q r) := by
  obtain ⟨a, ha⟩ := read_fq q h1
  obtain ⟨b, hb⟩ := read_fq r h2
  show (double.read (fq q)).order (double.read (fq r)) = _
  rw [ha, hb]
  have e0 : min (-2 - (a : Int)) (-2 - (b : Int)) = -2 - ((max a b : Nat) : Int) := by omega
  have e1 : (-2 - (a : Int) - (-2 - ((max a b : Nat) : Int))).toNat = max a b - a := by omega
  have e2 : (-2 - (b : Int) - (-2 - ((max a b : Nat) : Int))).toNat = max a b - b := by omega
  unfold Datum.order
  simp only [e0, e1, e2]
  rw [signed_q q a _ (max a b) (by omega), signed_q r b _ (max a b) (by omega)]
  have hp : (0 : Int) < 2 ^ max a b := by exact_mod_cast Nat.two_pow_pos (max a b)
  congr 1
  rcases Int.lt_trichotomy q r with h | h | h
  · have h' := Int.mul_lt_mul_of_pos_right h hp
    simp only [compare, compareOfLessAndEq, h, h', if_true]
  · subst h
    simp [compare, compareOfLessAndEq]
  · have h' := Int.mul_lt_mul_of_pos_right h hp
    have n1 : ¬ (q < r) := by omega
    have n2 : ¬ (q = r) := by omega
    have n3 : ¬ (q * 2 ^ max a b < r * 2 ^ max a b) := by omega
    have n4 : ¬ (q * 2 ^ max a b = r * 2 ^ max a b) := by omega
    simp only [compare, compareOfLessAndEq, n1, n2, n3, n4, if_false]

/-- float64 of a whole number. -/
theorem ofInt_fq (n : Int) (h : n.natAbs < 2 ^ 50) : floatOfInt .f64 n = fq (4 * n) := by
  show double.nearest (decide (n < 0)) n.natAbs 0 = _
  by_cases h0 : n = 0
  · subst h0; decide
  · have hm : n.natAbs ≠ 0 := by omega
    have h53 : (2:Nat) ^ 53 = 8 * 2 ^ 50 := by decide
    have h1 := nearest_exact (decide (n < 0)) n.natAbs 0 0 hm (by omega) (by omega) (by omega)
    have h2 := nearest_exact (decide (n < 0)) n.natAbs 2 0 hm (by omega) (by omega) (by omega)
    simp only [Nat.pow_zero, Nat.mul_one, Int.natCast_zero, Int.sub_zero] at h1
    unfold fq
    have e1 : (4 * n).natAbs = n.natAbs * 2 ^ 2 := by omega
    have e2 : decide (4 * n < 0) = decide (n < 0) := by
      by_cases hn : n < 0
      · have : 4 * n < 0 := by omega
        simp [hn, this]
      · have : ¬ (4 * n < 0) := by omega
        simp [hn, this]
    rw [e1, e2, h1]
    exact h2.symm

/-- A number of quarters, divided by 2 ^ s. -/
theorem quo_fq (q : Int) (s : Nat) (hs : s ≤ 2) (h : q.natAbs < 2 ^ 50) : floatBits .quo .f64 (fq (2 ^ s * q)) (fq (4 * 2 ^ s)) = some (fq q) := by
  by_cases hq0 : q = 0
  · subst hq0
    have : s = 0 ∨ s = 1 ∨ s = 2 := by omega
    rcases this with rfl | rfl | rfl <;> decide
  have h0 : q.natAbs ≠ 0 := by omega
  have h53 : (2:Nat) ^ 53 = 8 * 2 ^ 50 := by decide
  have hk : ((2:Int) ^ s * q).natAbs = 2 ^ s * q.natAbs := by rw [Int.natAbs_mul, Int.natAbs_pow]; rfl
  have hs4 : 2 ^ s ≤ 2 ^ 2 := Nat.pow_le_pow_right (by omega) hs
  have hb : ((2:Int) ^ s * q).natAbs < 2 ^ 53 := by
    rw [hk]
    calc 2 ^ s * q.natAbs ≤ 2 ^ 2 * q.natAbs := Nat.mul_le_mul_right _ hs4
      _ < 2 ^ 53 := by omega
  obtain ⟨a, ha⟩ := read_fq _ hb
  have hy : double.read (fq (4 * 2 ^ s)) = .number false (2 ^ 52) (s - 52) := by
    have : s = 0 ∨ s = 1 ∨ s = 2 := by omega
    rcases this with rfl | rfl | rfl <;> decide
  show ((double.read (fq (2 ^ s * q))).quotient (double.fractionBits + 2) (double.read (fq (4 * 2 ^ s)))).map double.write = _
  rw [ha, hy, hk]
  unfold Datum.quotient
  have hne : ¬ ((2:Nat) ^ 52 = 0) := by decide
  have hl : ((2:Nat) ^ 52).log2 = 52 := by decide
  simp only [hne, if_false, hl]
  have hf : double.fractionBits + 2 + 52 = 106 := rfl
  rw [hf]
  have hsg : (decide ((2:Int) ^ s * q < 0) ^^ false) = decide (q < 0) := by
    have hp : (0:Int) < 2 ^ s := by exact_mod_cast Nat.two_pow_pos s
    rw [Bool.xor_false]
    congr 1
    apply propext
    constructor
    · intro h
      by_cases hx : q < 0
      · exact hx
      · have := Int.mul_nonneg (Int.le_of_lt hp) (show 0 ≤ q by omega)
        omega
    · intro h; exact Int.mul_neg_of_pos_of_neg hp h
  rw [hsg]
  generalize hM : 106 - (2 ^ s * q.natAbs * 2 ^ a).log2 = more
  have hm1 : 2 ^ s * q.natAbs ≠ 0 := Nat.mul_ne_zero (by have := Nat.two_pow_pos s; omega) h0
  have hl1 := log2_lt53 _ hm1 (by rwa [hk] at hb)
  have hl2 := log2_shift _ a hm1
  have hge : 54 ≤ more + a := by omega
  have e1 : (2 ^ s * q.natAbs * 2 ^ a) <<< more = 2 ^ s * q.natAbs * 2 ^ (more + a - 52) * 2 ^ 52 := by
    generalize 2 ^ s * q.natAbs = X
    rw [Nat.shiftLeft_eq, Nat.mul_assoc, ← Nat.pow_add, Nat.mul_assoc, ← Nat.pow_add, show more + a - 52 + 52 = a + more by omega]
  rw [e1, Nat.mul_div_cancel _ (Nat.two_pow_pos 52), Nat.mul_mod_left]
  have e2 : 2 * (2 ^ s * q.natAbs * 2 ^ (more + a - 52)) + ((0:Nat) != 0).toNat = q.natAbs * 2 ^ (s + (more + a - 52) + 1) := by
    simp only [bne_self_eq_false, Bool.toNat_false, Nat.add_zero, Nat.pow_add, Nat.pow_one]
    generalize 2 ^ (more + a - 52) = A
    generalize 2 ^ s = B
    rw [Nat.mul_comm 2, Nat.mul_comm B, Nat.mul_assoc q.natAbs, Nat.mul_assoc q.natAbs]
  rw [e2]
  have e3 : (-2 - (a : Int) - ((s : Int) - 52) - (more : Int) - 1) = -2 - ((s + (more + a - 52) + 1 : Nat) : Int) := by omega
  rw [e3]
  simp only [Option.map_some, Format.write]
  rw [write_fq q _ (by omega)]
end Go.Proofs.Ytilcmkiihefkkaa
