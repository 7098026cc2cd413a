import Derived.Laws.FloatArith
section
namespace Go.Proofs.YtilcmkiihefkkabGreatDoor.Mn
open Ieee
/-- The word of a number of quarters. -/
def fq (q : Int) : Nat := double.nearest (decide (q < 0)) q.natAbs (-2)
theorem log2_shift (m a : Nat) (hm : m ≠ 0) : (m * 2 ^ a).log2 = m.log2 + a := by
  have h1 : m * 2 ^ a ≠ 0 := Nat.mul_ne_zero hm (by have := Nat.two_pow_pos a; omega)
  rw [Nat.log2_eq_iff h1]
  have h2 := (Nat.log2_eq_iff (k := m.log2) hm).1 rfl
  refine ⟨?_, ?_⟩
  · rw [Nat.pow_add]; exact Nat.mul_le_mul_right _ h2.1
  · rw [show m.log2 + a + 1 = (m.log2 + 1) + a by omega, Nat.pow_add]
    exact Nat.mul_lt_mul_of_pos_right h2.2 (Nat.two_pow_pos a)
theorem log2_lt53 (m : Nat) (hm : m ≠ 0) (h : m < 2 ^ 53) : m.log2 ≤ 52 := by
  have := (Nat.log2_lt hm).2 h
  omega
theorem cut_exact (neg : Bool) (m D : Nat) (hm : m ≠ 0) : Toward.even.cut neg (m * 2 ^ D) D = m := by
  have h1 : (m * 2 ^ D).log2 = m.log2 + D := log2_shift m D hm
  have h2 : min D ((m * 2 ^ D).log2 + 2) = D := by rw [h1]; omega
  have hp := Nat.two_pow_pos D
  unfold Toward.cut
  simp only [h2, Nat.one_shiftLeft, Nat.mul_mod_left, Nat.mul_div_cancel _ hp]
  have e1 : decide (2 ^ D < 2 * 0) = false := by simp
  have e2 : (2 ^ D == 2 * 0) = false := by
    simp only [Nat.mul_zero, beq_eq_false_iff_ne]; omega
  rw [e1, e2]; rfl
/-- What is to be written exactly: by its last digit or by any place below. -/
theorem nearest_exact (neg : Bool) (m a : Nat) (e : Int) (hm : m ≠ 0) (h : m < 2 ^ 53) (he : -900 ≤ e) (he2 : e ≤ 900) :
    double.nearest neg (m * 2 ^ a) (e - a) = double.word neg ((e + m.log2 - 52 + 1074).toNat * 2 ^ 52 + m * 2 ^ (52 - m.log2)) := by
  have h1 : m * 2 ^ a ≠ 0 := Nat.mul_ne_zero hm (by have := Nat.two_pow_pos a; omega)
  have hl := log2_lt53 m hm h
  have hL := log2_shift m a hm
  have hlp : double.leastPlace = -1074 := by decide
  have hb : double.binade = 2 ^ 52 := rfl
  have hf : double.fractionBits = 52 := rfl
  have hi : double.infRung = 2047 * 2 ^ 52 := rfl
  unfold Format.nearest
  rw [if_neg h1]
  simp only [hlp, hb, hL, hf, hi]
  have hlast : max (e - (a : Int) + ((m.log2 + a : Nat) : Int) - ((52 : Nat) : Int)) (-1074) = e + m.log2 - 52 := by omega
  rw [hlast]
  have hkept : Toward.even.cut neg ((m * 2 ^ a) <<< (e - (a : Int) - (e + m.log2 - 52)).toNat) (e + m.log2 - 52 - (e - (a : Int))).toNat = m * 2 ^ (52 - m.log2) := by
    by_cases ha : a ≤ 52 - m.log2
    · have e1 : (e - (a : Int) - (e + m.log2 - 52)).toNat = 52 - m.log2 - a := by omega
      have e2 : (e + m.log2 - 52 - (e - (a : Int))).toNat = 0 := by omega
      rw [e1, e2, Nat.shiftLeft_eq, Nat.mul_assoc, ← Nat.pow_add, show a + (52 - m.log2 - a) = 52 - m.log2 by omega]
      have hne : m * 2 ^ (52 - m.log2) ≠ 0 := Nat.mul_ne_zero hm (by have := Nat.two_pow_pos (52 - m.log2); omega)
      have := cut_exact neg (m * 2 ^ (52 - m.log2)) 0 hne
      simpa using this
    · have e1 : (e - (a : Int) - (e + m.log2 - 52)).toNat = 0 := by omega
      have e2 : (e + m.log2 - 52 - (e - (a : Int))).toNat = a - (52 - m.log2) := by omega
      rw [e1, e2, Nat.shiftLeft_zero]
      have e3 : m * 2 ^ a = m * 2 ^ (52 - m.log2) * 2 ^ (a - (52 - m.log2)) := by
        rw [Nat.mul_assoc, ← Nat.pow_add, show 52 - m.log2 + (a - (52 - m.log2)) = a by omega]
      rw [e3]
      exact cut_exact neg _ _ (Nat.mul_ne_zero hm (by have := Nat.two_pow_pos (52 - m.log2); omega))
  rw [hkept]
  have hM : m * 2 ^ (52 - m.log2) < 2 ^ 53 := by
    have h2 := ((Nat.log2_eq_iff (k := m.log2) hm).1 rfl).2
    calc m * 2 ^ (52 - m.log2) < 2 ^ (m.log2 + 1) * 2 ^ (52 - m.log2) := Nat.mul_lt_mul_of_pos_right h2 (Nat.two_pow_pos _)
      _ = 2 ^ 53 := by rw [← Nat.pow_add, show m.log2 + 1 + (52 - m.log2) = 53 by omega]
  have e4 : (e + m.log2 - 52 - -1074).toNat = (e + m.log2 - 52 + 1074).toNat := by omega
  rw [e4, Nat.min_eq_left]
  have : (e + m.log2 - 52 + 1074).toNat ≤ 1974 := by omega
  have h53 : (2:Nat) ^ 53 = 2 * 2 ^ 52 := by decide
  have h7 : (e + m.log2 - 52 + 1074).toNat * 2 ^ 52 ≤ 1974 * 2 ^ 52 := Nat.mul_le_mul_right _ this
  rw [h53] at hM
  generalize (2:Nat) ^ 52 = P at *
  generalize (e + m.log2 - 52 + 1074).toNat * P = X at *
  omega
theorem read_exact (neg : Bool) (E M : Nat) (h1 : 2 ^ 52 ≤ M) (h2 : M < 2 ^ 53) (hE : E ≤ 2000) :
    double.read (double.word neg (E * 2 ^ 52 + M)) = .number neg M (-1074 + E) := by
  have hlp : double.leastPlace = -1074 := by decide
  have hb : double.binade = 2 ^ 52 := rfl
  have hi : double.infRung = 2047 * 2 ^ 52 := rfl
  have hs : double.signWeight = 2 ^ 63 := rfl
  have h53 : (2:Nat) ^ 53 = 2 * 2 ^ 52 := by decide
  have h63 : (2:Nat) ^ 63 = 2048 * 2 ^ 52 := by decide
  have hE' : E * 2 ^ 52 ≤ 2000 * 2 ^ 52 := Nat.mul_le_mul_right _ hE
  generalize hP : (2:Nat) ^ 52 = P at *
  have hPp : 0 < P := by rw [← hP]; exact Nat.two_pow_pos _
  have hr : E * P + M < 2048 * P := by omega
  have e1 : ((double.word neg (E * P + M)) / double.signWeight % 2 == 1) = neg := by
    unfold Format.word
    rw [hs, h63]
    cases neg
    · simp [Nat.div_eq_of_lt hr]
    · simp only [if_true]
      rw [show 2048 * P + (E * P + M) = (E * P + M) + 1 * (2048 * P) by omega, Nat.add_mul_div_right _ _ (by omega), Nat.div_eq_of_lt hr]
      rfl
  have e2 : (double.word neg (E * P + M)) % double.signWeight = E * P + M := by
    unfold Format.word
    rw [hs, h63]
    cases neg
    · simp [Nat.mod_eq_of_lt hr]
    · simp only [if_true]
      rw [show 2048 * P + (E * P + M) = (E * P + M) + 1 * (2048 * P) by omega, Nat.add_mul_mod_self_right, Nat.mod_eq_of_lt hr]
  unfold Format.read
  simp only [e1, e2, hb, hi, hlp]
  rw [if_neg (by omega), if_pos (by omega)]
  have e3 : E * P + M = (M - P) + (E + 1) * P := by rw [Nat.add_mul]; omega
  have e4 : (E * P + M) % P = M - P := by
    rw [e3, Nat.add_mul_mod_self_right, Nat.mod_eq_of_lt (by omega)]
  have e5 : (E * P + M) / P = E + 1 := by
    rw [e3, Nat.add_mul_div_right _ _ hPp, Nat.div_eq_of_lt (by omega)]; omega
  rw [e4, e5]
  congr 1
  omega
/-- What a number of quarters stands for. -/
theorem read_fq (q : Int) (h : q.natAbs < 2 ^ 53) : ∃ a : Nat, double.read (fq q) = .number (decide (q < 0)) (q.natAbs * 2 ^ a) (-2 - a) := by
  by_cases h0 : q = 0
  · subst h0
    have key : ∀ a : Nat, a = 1072 → double.read (fq 0) = .number (decide ((0:Int) < 0)) ((0:Int).natAbs * 2 ^ a) (-2 - a) := by
      intro a ha
      have e0 : fq 0 = 0 := by decide
      have e1 : (-2 - (a : Int)) = -1074 := by omega
      rw [e1, e0, Int.natAbs_zero, Nat.zero_mul]
      decide
    exact ⟨1072, key 1072 rfl⟩
  · have hm : q.natAbs ≠ 0 := by omega
    have hx := nearest_exact (decide (q < 0)) q.natAbs 0 (-2) hm h (by omega) (by omega)
    simp only [Nat.pow_zero, Nat.mul_one, Int.natCast_zero, Int.sub_zero] at hx
    have hl := log2_lt53 _ hm h
    have h2 := (Nat.log2_eq_iff (k := q.natAbs.log2) hm).1 rfl
    refine ⟨52 - q.natAbs.log2, ?_⟩
    unfold fq
    rw [hx, read_exact]
    · congr 1; omega
    · calc 2 ^ 52 = 2 ^ q.natAbs.log2 * 2 ^ (52 - q.natAbs.log2) := by rw [← Nat.pow_add, show q.natAbs.log2 + (52 - q.natAbs.log2) = 52 by omega]
        _ ≤ _ := Nat.mul_le_mul_right _ h2.1
    · calc q.natAbs * 2 ^ (52 - q.natAbs.log2) < 2 ^ (q.natAbs.log2 + 1) * 2 ^ (52 - q.natAbs.log2) := Nat.mul_lt_mul_of_pos_right h2.2 (Nat.two_pow_pos _)
        _ = 2 ^ 53 := by rw [← Nat.pow_add, show q.natAbs.log2 + 1 + (52 - q.natAbs.log2) = 53 by omega]
    · omega
/-- Written again: any number of quarters, by whatever place. -/
theorem write_fq (q : Int) (a : Nat) (h : q.natAbs < 2 ^ 53) : double.nearest (decide (q < 0)) (q.natAbs * 2 ^ a) (-2 - a) = fq q := by
  by_cases h0 : q = 0
  · subst h0
    unfold fq Format.nearest
    simp
  · have hm : q.natAbs ≠ 0 := by omega
    have h1 := nearest_exact (decide (q < 0)) q.natAbs 0 (-2) hm h (by omega) (by omega)
    have h2 := nearest_exact (decide (q < 0)) q.natAbs a (-2) hm h (by omega) (by omega)
    simp only [Nat.pow_zero, Nat.mul_one, Int.natCast_zero, Int.sub_zero] at h1
    unfold fq
    rw [h1, h2]
theorem signed_q (q : Int) (a up c : Nat) (hc : a + up = c) : signed (decide (q < 0)) (q.natAbs * 2 ^ a) up = q * 2 ^ c := by
  unfold signed
  rw [Nat.shiftLeft_eq, Nat.mul_assoc, ← Nat.pow_add, hc]
  by_cases h : q < 0
  · simp only [h, decide_true, if_true]
    have : q = -(q.natAbs : Int) := by omega
    rw [Int.natCast_mul, Int.natCast_pow]
    conv => rhs; rw [this]
    rw [Int.neg_mul]; rfl
  · simp only [h, decide_false]
    have : q = (q.natAbs : Int) := by omega
    rw [Int.natCast_mul, Int.natCast_pow]
    conv => rhs; rw [this]
    rfl
theorem signed_not (s : Bool) (m up : Nat) : signed (!s) m up = - signed s m up := by
  unfold signed; cases s <;> simp
theorem sum_q (q r : Int) (a b : Nat) (t : Bool) (n : Nat) (hs : ∀ up c, b + up = c → signed t n up = r * 2 ^ c) (ht : q + r = 0 → (decide (q < 0) && t) = false) (h : (q + r).natAbs < 2 ^ 53) :
    (Datum.sum (.number (decide (q < 0)) (q.natAbs * 2 ^ a) (-2 - a)) (.number t n (-2 - b))).map double.write = some (fq (q + r)) := by
  have e0 : min (-2 - (a : Int)) (-2 - (b : Int)) = -2 - ((max a b : Nat) : Int) := by omega
  have e1 : (-2 - (a : Int) - (-2 - ((max a b : Nat) : Int))).toNat = max a b - a := by omega
  have e2 : (-2 - (b : Int) - (-2 - ((max a b : Nat) : Int))).toNat = max a b - b := by omega
  unfold Datum.sum
  simp only [e0, e1, e2]
  rw [signed_q q a _ (max a b) (by omega), hs _ (max a b) (by omega), ← Int.add_mul]
  have hp : (0 : Int) < 2 ^ max a b := by exact_mod_cast Nat.two_pow_pos (max a b)
  have z : ((q + r) * 2 ^ max a b = 0) ↔ q + r = 0 := by
    rw [Int.mul_eq_zero]
    exact ⟨fun h => h.elim id (fun h => by omega), Or.inl⟩
  have l : ((q + r) * 2 ^ max a b < 0) ↔ q + r < 0 := by
    constructor
    · intro h
      by_cases hx : q + r < 0
      · exact hx
      · have := Int.mul_nonneg (show 0 ≤ q + r by omega) (Int.le_of_lt hp)
        omega
    · intro h; exact Int.mul_neg_of_neg_of_pos h hp
  have hn : ((q + r) * 2 ^ max a b).natAbs = (q + r).natAbs * 2 ^ max a b := by
    rw [Int.natAbs_mul, Int.natAbs_pow]; rfl
  simp only [Option.map_some, Format.write, hn, z, l]
  congr 1
  by_cases h0 : q + r = 0
  · rw [if_pos h0, ht h0, h0]
    unfold fq Format.nearest
    simp
  · rw [if_neg h0]
    exact write_fq _ _ h
theorem add_fq (q r : Int) (h1 : q.natAbs < 2 ^ 53) (h2 : r.natAbs < 2 ^ 53) (h : (q + r).natAbs < 2 ^ 53) : floatBits .add .f64 (fq q) (fq r) = some (fq (q + r)) := by
  obtain ⟨a, ha⟩ := read_fq q h1
  obtain ⟨b, hb⟩ := read_fq r h2
  show ((double.read (fq q)).sum (double.read (fq r))).map double.write = _
  rw [ha, hb]
  refine sum_q q r a b _ _ (fun up c hc => signed_q r b up c hc) ?_ h
  intro h0
  by_cases hq : q < 0
  · have : ¬ r < 0 := by omega
    simp [this]
  · simp [hq]
theorem sub_fq (q r : Int) (h1 : q.natAbs < 2 ^ 53) (h2 : r.natAbs < 2 ^ 53) (h : (q - r).natAbs < 2 ^ 53) : floatBits .sub .f64 (fq q) (fq r) = some (fq (q - r)) := by
  obtain ⟨a, ha⟩ := read_fq q h1
  obtain ⟨b, hb⟩ := read_fq r h2
  show ((double.read (fq q)).sum (double.read (fq r)).opposite).map double.write = _
  rw [ha, hb]
  have := sum_q q (-r) a b (!(decide (r < 0))) (r.natAbs * 2 ^ b) (fun up c hc => by rw [signed_not, signed_q r b up c hc, Int.neg_mul]) ?_ (by rwa [← Int.sub_eq_add_neg])
  · rw [Int.sub_eq_add_neg]; exact this
  · intro h0
    by_cases hq : q < 0
    · have : r < 0 := by omega
      simp [this]
    · simp [hq]
theorem order_fq (q r : Int) (h1 : q.natAbs < 2 ^ 53) (h2 : r.natAbs < 2 ^ 53) : double.order (fq q) (fq r) = some (compare q r) := by
  obtain ⟨a, ha⟩ := read_fq q h1
  obtain ⟨b, hb⟩ := read_fq r h2
  show (double.read (fq q)).order (double.read (fq r)) = _
  rw [ha, hb]
  have e0 : min (-2 - (a : Int)) (-2 - (b : Int)) = -2 - ((max a b : Nat) : Int) := by omega
  have e1 : (-2 - (a : Int) - (-2 - ((max a b : Nat) : Int))).toNat = max a b - a := by omega
  have e2 : (-2 - (b : Int) - (-2 - ((max a b : Nat) : Int))).toNat = max a b - b := by omega
  unfold Datum.order
  simp only [e0, e1, e2]
  rw [signed_q q a _ (max a b) (by omega), signed_q r b _ (max a b) (by omega)]
  have hp : (0 : Int) < 2 ^ max a b := by exact_mod_cast Nat.two_pow_pos (max a b)
  congr 1
  rcases Int.lt_trichotomy q r with h | h | h
  · have h' := Int.mul_lt_mul_of_pos_right h hp
    simp only [compare, compareOfLessAndEq, h, h', if_true]
  · subst h
    simp [compare, compareOfLessAndEq]
  · have h' := Int.mul_lt_mul_of_pos_right h hp
    have n1 : ¬ (q < r) := by omega
    have n2 : ¬ (q = r) := by omega
    have n3 : ¬ (q * 2 ^ max a b < r * 2 ^ max a b) := by omega
    have n4 : ¬ (q * 2 ^ max a b = r * 2 ^ max a b) := by omega
    simp only [compare, compareOfLessAndEq, n1, n2, n3, n4, if_false]
/-- float64 of a whole number. -/
theorem ofInt_fq (n : Int) (h : n.natAbs < 2 ^ 50) : floatOfInt .f64 n = fq (4 * n) := by
  show double.nearest (decide (n < 0)) n.natAbs 0 = _
  by_cases h0 : n = 0
  · subst h0; decide
  · have hm : n.natAbs ≠ 0 := by omega
    have h53 : (2:Nat) ^ 53 = 8 * 2 ^ 50 := by decide
    have h1 := nearest_exact (decide (n < 0)) n.natAbs 0 0 hm (by omega) (by omega) (by omega)
    have h2 := nearest_exact (decide (n < 0)) n.natAbs 2 0 hm (by omega) (by omega) (by omega)
    simp only [Nat.pow_zero, Nat.mul_one, Int.natCast_zero, Int.sub_zero] at h1
    unfold fq
    have e1 : (4 * n).natAbs = n.natAbs * 2 ^ 2 := by omega
    have e2 : decide (4 * n < 0) = decide (n < 0) := by
      by_cases hn : n < 0
      · have : 4 * n < 0 := by omega
        simp [hn, this]
      · have : ¬ (4 * n < 0) := by omega
        simp [hn, this]
    rw [e1, e2, h1]
    exact h2.symm
/-- A number of quarters, divided by 2 ^ s. -/
theorem quo_fq (q : Int) (s : Nat) (hs : s ≤ 2) (h : q.natAbs < 2 ^ 50) : floatBits .quo .f64 (fq (2 ^ s * q)) (fq (4 * 2 ^ s)) = some (fq q) := by
  by_cases hq0 : q = 0
  · subst hq0
    have : s = 0 ∨ s = 1 ∨ s = 2 := by omega
    rcases this with rfl | rfl | rfl <;> decide
  have h0 : q.natAbs ≠ 0 := by omega
  have h53 : (2:Nat) ^ 53 = 8 * 2 ^ 50 := by decide
  have hk : ((2:Int) ^ s * q).natAbs = 2 ^ s * q.natAbs := by rw [Int.natAbs_mul, Int.natAbs_pow]; rfl
  have hs4 : 2 ^ s ≤ 2 ^ 2 := Nat.pow_le_pow_right (by omega) hs
  have hb : ((2:Int) ^ s * q).natAbs < 2 ^ 53 := by
    rw [hk]
    calc 2 ^ s * q.natAbs ≤ 2 ^ 2 * q.natAbs := Nat.mul_le_mul_right _ hs4
      _ < 2 ^ 53 := by omega
  obtain ⟨a, ha⟩ := read_fq _ hb
  have hy : double.read (fq (4 * 2 ^ s)) = .number false (2 ^ 52) (s - 52) := by
    have : s = 0 ∨ s = 1 ∨ s = 2 := by omega
    rcases this with rfl | rfl | rfl <;> decide
  show ((double.read (fq (2 ^ s * q))).quotient (double.fractionBits + 2) (double.read (fq (4 * 2 ^ s)))).map double.write = _
  rw [ha, hy, hk]
  unfold Datum.quotient
  have hne : ¬ ((2:Nat) ^ 52 = 0) := by decide
  have hl : ((2:Nat) ^ 52).log2 = 52 := by decide
  simp only [hne, if_false, hl]
  have hf : double.fractionBits + 2 + 52 = 106 := rfl
  rw [hf]
  have hsg : (decide ((2:Int) ^ s * q < 0) ^^ false) = decide (q < 0) := by
    have hp : (0:Int) < 2 ^ s := by exact_mod_cast Nat.two_pow_pos s
    rw [Bool.xor_false]
    congr 1
    apply propext
    constructor
    · intro h
      by_cases hx : q < 0
      · exact hx
      · have := Int.mul_nonneg (Int.le_of_lt hp) (show 0 ≤ q by omega)
        omega
    · intro h; exact Int.mul_neg_of_pos_of_neg hp h
  rw [hsg]
  generalize hM : 106 - (2 ^ s * q.natAbs * 2 ^ a).log2 = more
  have hm1 : 2 ^ s * q.natAbs ≠ 0 := Nat.mul_ne_zero (by have := Nat.two_pow_pos s; omega) h0
  have hl1 := log2_lt53 _ hm1 (by rwa [hk] at hb)
  have hl2 := log2_shift _ a hm1
  have hge : 54 ≤ more + a := by omega
  have e1 : (2 ^ s * q.natAbs * 2 ^ a) <<< more = 2 ^ s * q.natAbs * 2 ^ (more + a - 52) * 2 ^ 52 := by
    generalize 2 ^ s * q.natAbs = X
    rw [Nat.shiftLeft_eq, Nat.mul_assoc, ← Nat.pow_add, Nat.mul_assoc, ← Nat.pow_add, show more + a - 52 + 52 = a + more by omega]
  rw [e1, Nat.mul_div_cancel _ (Nat.two_pow_pos 52), Nat.mul_mod_left]
  have e2 : 2 * (2 ^ s * q.natAbs * 2 ^ (more + a - 52)) + ((0:Nat) != 0).toNat = q.natAbs * 2 ^ (s + (more + a - 52) + 1) := by
    simp only [bne_self_eq_false, Bool.toNat_false, Nat.add_zero, Nat.pow_add, Nat.pow_one]
    generalize 2 ^ (more + a - 52) = A
    generalize 2 ^ s = B
    rw [Nat.mul_comm 2, Nat.mul_comm B, Nat.mul_assoc q.natAbs, Nat.mul_assoc q.natAbs]
  rw [e2]
  have e3 : (-2 - (a : Int) - ((s : Int) - 52) - (more : Int) - 1) = -2 - ((s + (more + a - 52) + 1 : Nat) : Int) := by omega
  rw [e3]
  simp only [Option.map_some, Format.write]
  rw [write_fq q _ (by omega)]
end Go.Proofs.YtilcmkiihefkkabGreatDoor.Mn
end
section
set_option linter.unusedVariables false
set_option linter.unusedSimpArgs false
set_option exponentiation.threshold 3000
namespace Go.Proofs.YtilcmkiihefkkabGreatDoor.Mn
open Ieee
/-- m * 2 ^ e is no more than M * 2 ^ L -/
def Vle (m : Nat) (e : Int) (M : Nat) (L : Int) : Prop := m * 2 ^ (e - min e L).toNat ≤ M * 2 ^ (L - min e L).toNat
theorem vle_iff {m : Nat} {e : Int} {M : Nat} {L : Int} (c : Int) (h1 : c ≤ e) (h2 : c ≤ L) : Vle m e M L ↔ m * 2 ^ (e - c).toNat ≤ M * 2 ^ (L - c).toNat := by
  unfold Vle
  have e1 : (e - c).toNat = (e - min e L).toNat + (min e L - c).toNat := by omega
  have e2 : (L - c).toNat = (L - min e L).toNat + (min e L - c).toNat := by omega
  rw [e1, e2, Nat.pow_add, Nat.pow_add, ← Nat.mul_assoc, ← Nat.mul_assoc]
  exact (Nat.mul_le_mul_right_iff (Nat.two_pow_pos _)).symm
theorem cut_le (neg : Bool) (n drop N : Nat) (h : n ≤ N * 2 ^ drop) : Toward.even.cut neg n drop ≤ N := by
  unfold Toward.cut
  simp only [Nat.one_shiftLeft]
  by_cases hd : drop ≤ n.log2 + 2
  · rw [Nat.min_eq_left hd]
    have hp := Nat.two_pow_pos drop
    have hdm := Nat.div_add_mod n (2 ^ drop)
    by_cases hr : n % 2 ^ drop = 0
    · rw [hr]
      have e1 : decide (2 ^ drop < 2 * 0) = false := by simp
      have e2 : (2 ^ drop == 2 * 0) = false := by simp only [Nat.mul_zero, beq_eq_false_iff_ne]; omega
      rw [e1, e2]
      simp only [Bool.false_and, Bool.or_false, Bool.toNat_false, Nat.add_zero]
      exact Nat.div_le_of_le_mul (by rw [Nat.mul_comm]; exact h)
    · have hlt : n / 2 ^ drop < N := by
        rw [Nat.div_lt_iff_lt_mul hp]
        rcases Nat.lt_or_ge n (N * 2 ^ drop) with h' | h'
        · exact h'
        · have : n = N * 2 ^ drop := by omega
          rw [this, Nat.mul_mod_left] at hr
          exact absurd rfl hr
      have hb : ∀ b : Bool, b.toNat ≤ 1 := by intro b; cases b <;> decide
      exact Nat.le_trans (Nat.add_le_add_left (hb _) _) hlt
  · rw [Nat.min_eq_right (by omega)]
    by_cases h0 : n = 0
    · subst h0; simp
    · have h2 := (Nat.log2_eq_iff (k := n.log2) h0).1 rfl
      have hlt : 2 * n < 2 ^ (n.log2 + 2) := by rw [Nat.pow_succ]; omega
      have e1 : n / 2 ^ (n.log2 + 2) = 0 := Nat.div_eq_of_lt (by omega)
      have e2 : n % 2 ^ (n.log2 + 2) = n := Nat.mod_eq_of_lt (by omega)
      rw [e1, e2]
      have e3 : decide (2 ^ (n.log2 + 2) < 2 * n) = false := by simp; omega
      have e4 : (2 ^ (n.log2 + 2) == 2 * n) = false := by simp only [beq_eq_false_iff_ne]; omega
      rw [e3, e4]
      simp
theorem nearest_le (mag : Nat) (place : Int) (M : Nat) (L : Int) (hM1 : 2 ^ 52 ≤ M) (hM2 : M < 2 ^ 53) (hL1 : -1074 ≤ L) (h : Vle mag place M L) :
    double.nearest false mag place ≤ (L + 1074).toNat * 2 ^ 52 + M := by
  have hlp : double.leastPlace = -1074 := by decide
  have hb : double.binade = 2 ^ 52 := rfl
  have hf : double.fractionBits = 52 := rfl
  unfold Format.nearest
  split
  · unfold Format.word; simp
  · rename_i h0
    simp only [hlp, hb, hf]
    unfold Format.word
    simp only [Bool.false_eq_true, if_false]
    refine Nat.le_trans (Nat.min_le_left _ _) ?_
    have h2 := (Nat.log2_eq_iff (k := mag.log2) h0).1 rfl
    obtain ⟨last, hlast⟩ : ∃ last, last = max (place + mag.log2 - ((52 : Nat) : Int)) (-1074) := ⟨_, rfl⟩
    rw [← hlast]
    have hc := (vle_iff (min place L) (by omega) (by omega)).1 h
    have hle : last ≤ L := by
      by_cases hq : place + mag.log2 - 52 ≤ -1074
      · omega
      · have h3 : 2 ^ (mag.log2 + (place - min place L).toNat) < 2 ^ (53 + (L - min place L).toNat) := by
          rw [Nat.pow_add, Nat.pow_add]
          exact Nat.lt_of_le_of_lt (Nat.le_trans (Nat.mul_le_mul_right _ h2.1) hc) (Nat.mul_lt_mul_of_pos_right hM2 (Nat.two_pow_pos _))
        have h4 := (Nat.pow_lt_pow_iff_right (a := 2) (by omega)).1 h3
        omega
    by_cases hl : last = L
    · subst hl
      refine Nat.add_le_add (by simp) (cut_le _ _ _ _ ?_)
      rw [Nat.shiftLeft_eq]
      by_cases hp : place ≤ last
      · rw [Int.min_eq_left hp] at hc
        rw [show (place - last).toNat = (place - place).toNat by omega]
        exact hc
      · rw [Int.min_eq_right (by omega)] at hc
        rw [show (last - place).toNat = (last - last).toNat by omega]
        exact hc
    · have hk : Toward.even.cut false (mag <<< (place - last).toNat) (last - place).toNat ≤ 2 ^ 53 := by
        refine cut_le _ _ _ _ ?_
        rw [Nat.shiftLeft_eq, ← Nat.pow_add]
        have : mag * 2 ^ (place - last).toNat ≤ 2 ^ (mag.log2 + 1) * 2 ^ (place - last).toNat := Nat.mul_le_mul_right _ (Nat.le_of_lt h2.2)
        refine Nat.le_trans this ?_
        rw [← Nat.pow_add]
        exact Nat.pow_le_pow_right (by omega) (by omega)
      have h5 : (last - -1074).toNat * 2 ^ 52 + 2 ^ 53 ≤ (L + 1074).toNat * 2 ^ 52 + 2 ^ 52 := by
        have h7 : (last - -1074).toNat + 1 ≤ (L + 1074).toNat := by omega
        have e53 : (2 : Nat) ^ 53 = 2 * 2 ^ 52 := by rw [Nat.pow_succ, Nat.mul_comm]
        rw [e53]
        generalize (2 : Nat) ^ 52 = B
        generalize (last - -1074).toNat = x at *
        generalize (L + 1074).toNat = y at *
        have h6 := Nat.mul_le_mul_right B h7
        rw [Nat.add_mul] at h6
        omega
      omega
theorem read_le (r M : Nat) (L : Int) (hM1 : 2 ^ 52 ≤ M) (hM2 : M < 2 ^ 53) (hL1 : -1074 ≤ L) (hL2 : L ≤ 900) (h : r ≤ (L + 1074).toNat * 2 ^ 52 + M) :
    ∃ m e, double.read r = .number false m e ∧ Vle m e M L ∧ e ≤ L := by
  have hlp : double.leastPlace = -1074 := by decide
  have hb : double.binade = 2 ^ 52 := rfl
  have hi : double.infRung = 2047 * 2 ^ 52 := rfl
  have hs : double.signWeight = 2 ^ 63 := rfl
  have hk : (L + 1074).toNat ≤ 1974 := by omega
  have hr : r < 2 ^ 63 := by
    have := Nat.mul_le_mul_right (2 ^ 52) hk
    omega
  unfold Format.read
  simp only [hlp, hb, hi, hs, Nat.div_eq_of_lt hr, Nat.mod_eq_of_lt hr]
  split
  · rename_i h52
    refine ⟨r, -1074, rfl, ?_, hL1⟩
    rw [vle_iff (-1074) (by omega) hL1]
    have := Nat.two_pow_pos (L - -1074).toNat
    simp only [Int.sub_self, Int.toNat_zero, Nat.pow_zero, Nat.mul_one]
    exact Nat.le_trans (Nat.le_of_lt (Nat.lt_of_lt_of_le h52 hM1)) (Nat.le_mul_of_pos_right _ this)
  · rename_i h52
    have hinf : r < 2047 * 2 ^ 52 := by
      have := Nat.mul_le_mul_right (2 ^ 52) hk
      omega
    rw [if_pos hinf]
    have hdm := Nat.div_add_mod r (2 ^ 52)
    have hml := Nat.mod_lt r (Nat.two_pow_pos 52)
    have hq1 : 1 ≤ r / 2 ^ 52 := by
      rw [Nat.le_div_iff_mul_le (Nat.two_pow_pos 52)]; omega
    generalize r / 2 ^ 52 = q at *
    generalize r % 2 ^ 52 = z at *
    have hq2 : q ≤ (L + 1074).toNat + 1 := by omega
    refine ⟨2 ^ 52 + z, -1074 + ((q - 1 : Nat) : Int), rfl, ?_, by omega⟩
    rw [vle_iff (-1074 + ((q - 1 : Nat) : Int)) (by omega) (by omega)]
    simp only [Int.sub_self, Int.toNat_zero, Nat.pow_zero, Nat.mul_one]
    by_cases hqe : q = (L + 1074).toNat + 1
    · have : (L - (-1074 + ((q - 1 : Nat) : Int))).toNat = 0 := by omega
      rw [this]
      subst hqe
      omega
    · have hp : 2 ^ 1 ≤ 2 ^ (L - (-1074 + ((q - 1 : Nat) : Int))).toNat := Nat.pow_le_pow_right (by omega) (by omega)
      have := Nat.mul_le_mul hM1 hp
      omega
end Go.Proofs.YtilcmkiihefkkabGreatDoor.Mn
end
section
set_option linter.unusedVariables false
set_option linter.unusedSimpArgs false
set_option exponentiation.threshold 3000
namespace Go.Proofs.YtilcmkiihefkkabGreatDoor.Mn
open Ieee
theorem log2_mono {o s : Nat} (h0 : o ≠ 0) (h : o ≤ s) : o.log2 ≤ s.log2 := by
  have h1 := (Nat.log2_eq_iff (k := o.log2) h0).1 rfl
  have h2 := (Nat.log2_eq_iff (k := s.log2) (by omega)).1 rfl
  have h3 : 2 ^ o.log2 < 2 ^ (s.log2 + 1) := Nat.lt_of_le_of_lt (Nat.le_trans h1.1 h) h2.2
  have := (Nat.pow_lt_pow_iff_right (a := 2) (by omega)).1 h3
  omega
/-- a quotient of two numbers of quarters, the lesser by the greater -/
theorem quot_le (o s : Nat) (h : o ≤ s) (hs : 0 < s) (h2 : s < 2 ^ 53) :
    ∃ A, floatBits .quo .f64 (fq o) (fq s) = some A ∧ A ≤ (-52 + 1074 : Int).toNat * 2 ^ 52 + 2 ^ 52 := by
  obtain ⟨a, ha⟩ := read_fq (o : Int) (by omega)
  obtain ⟨b, hb⟩ := read_fq (s : Int) (by omega)
  have d1 : decide ((o : Int) < 0) = false := by simp
  have d2 : decide ((s : Int) < 0) = false := by simp
  rw [d1, Int.natAbs_natCast] at ha
  rw [d2, Int.natAbs_natCast] at hb
  have hnz : s * 2 ^ b ≠ 0 := Nat.mul_ne_zero (by omega) (by have := Nat.two_pow_pos b; omega)
  obtain ⟨more, hmore⟩ : ∃ more, more = 54 + (s * 2 ^ b).log2 - (o * 2 ^ a).log2 := ⟨_, rfl⟩
  have hq : floatBits .quo .f64 (fq o) (fq s) = some (double.nearest false (2 * ((o * 2 ^ a) * 2 ^ more / (s * 2 ^ b)) + ((o * 2 ^ a) * 2 ^ more % (s * 2 ^ b) != 0).toNat) (-2 - (a : Int) - (-2 - (b : Int)) - (more : Int) - 1)) := by
    show Option.map double.write ((double.read (fq o)).quotient 54 (double.read (fq s))) = _
    rw [ha, hb]
    unfold Datum.quotient
    simp only [if_neg hnz, ← hmore]
    rw [Nat.shiftLeft_eq (o * 2 ^ a) more]
    rfl
  refine ⟨_, hq, nearest_le _ _ (2 ^ 52) (-52) (Nat.le_refl _) (by decide) (by omega) ?_⟩
  · clear hq
    by_cases h0 : o = 0
    · subst h0
      simp [Vle]
    · have hm1 : b ≤ a + more := by
        rw [log2_shift s b (by omega), log2_shift o a h0] at hmore
        have := log2_mono h0 h
        omega
      obtain ⟨D, hD⟩ : ∃ D, D = o * 2 ^ a * 2 ^ more := ⟨_, rfl⟩
      rw [← hD]
      have hD2 : D = o * 2 ^ (a + more) := by rw [hD, Nat.mul_assoc, ← Nat.pow_add]
      have hdm := Nat.div_add_mod D (s * 2 ^ b)
      have key : (2 * (D / (s * 2 ^ b)) + (D % (s * 2 ^ b) != 0).toNat) * 2 ^ b ≤ 2 ^ (a + more + 1) := by
        have hle : s * 2 ^ b * (D / (s * 2 ^ b)) ≤ s * 2 ^ (a + more) := by
          have : D ≤ s * 2 ^ (a + more) := by rw [hD2]; exact Nat.mul_le_mul_right _ h
          omega
        by_cases hr : D % (s * 2 ^ b) = 0
        · rw [hr]
          simp only [bne_self_eq_false, Bool.toNat_false, Nat.add_zero]
          rw [Nat.mul_assoc s] at hle
          have h3 := Nat.le_of_mul_le_mul_left hle hs
          rw [Nat.pow_succ, Nat.mul_assoc, Nat.mul_comm (D / _)]
          omega
        · have e1 : (D % (s * 2 ^ b) != 0).toNat = 1 := by simp [hr]
          rw [e1]
          have hlt : s * (2 ^ b * (D / (s * 2 ^ b))) < s * 2 ^ (a + more) := by
            rw [← Nat.mul_assoc]
            have : D ≤ s * 2 ^ (a + more) := by rw [hD2]; exact Nat.mul_le_mul_right _ h
            omega
          have h3 := Nat.lt_of_mul_lt_mul_left hlt
          have e2 : 2 ^ (a + more) = 2 ^ b * 2 ^ (a + more - b) := by rw [← Nat.pow_add]; congr 1; omega
          rw [e2] at h3
          have h4 := Nat.lt_of_mul_lt_mul_left h3
          have h5 : 2 * (D / (s * 2 ^ b)) + 1 ≤ 2 * 2 ^ (a + more - b) := by omega
          have h6 := Nat.mul_le_mul_right (2 ^ b) h5
          rw [Nat.pow_succ, e2]
          rw [Nat.mul_assoc 2, Nat.mul_comm (2 ^ (a + more - b))] at h6
          omega
      generalize (2 * (D / (s * 2 ^ b)) + (D % (s * 2 ^ b) != 0).toNat) = mag at *
      rw [vle_iff (-52 - ((a + more + 1 : Nat) : Int)) (by omega) (by omega)]
      have e3 : (-2 - (a : Int) - (-2 - (b : Int)) - (more : Int) - 1 - (-52 - ((a + more + 1 : Nat) : Int))).toNat = b + 52 := by omega
      have e4 : (-52 - (-52 - ((a + more + 1 : Nat) : Int))).toNat = a + more + 1 := by omega
      rw [e3, e4, Nat.pow_add 2 b, ← Nat.mul_assoc, Nat.mul_comm _ (2 ^ 52)]
      exact Nat.mul_le_mul_left _ key
/-- one less such a quotient -/
theorem sub_le (A : Nat) (hA : A ≤ (-52 + 1074 : Int).toNat * 2 ^ 52 + 2 ^ 52) : ∃ B, floatBits .sub .f64 (fq 4) A = some B ∧ B ≤ (-52 + 1074 : Int).toNat * 2 ^ 52 + 2 ^ 52 := by
  obtain ⟨m, e, hr, hv, he⟩ := read_le A (2 ^ 52) (-52) (Nat.le_refl _) (by decide) (by omega) (by omega) hA
  have h4 : double.read (fq 4) = .number false (2 ^ 52) (-52) := by decide
  have hb : min (-52 : Int) e = e := by omega
  have hc := (vle_iff e (Int.le_refl _) he).1 hv
  simp only [Int.sub_self, Int.toNat_zero, Nat.pow_zero, Nat.mul_one] at hc
  obtain ⟨t, ht⟩ : ∃ t : Nat, (t : Int) = ((2 ^ 52 * 2 ^ (-52 - e).toNat : Nat) : Int) - (m : Nat) := ⟨2 ^ 52 * 2 ^ (-52 - e).toNat - m, by omega⟩
  have hq : floatBits .sub .f64 (fq 4) A = some (double.nearest false t e) := by
    show Option.map double.write ((double.read (fq 4)).sum (double.read A).opposite) = _
    rw [h4, hr]
    unfold Datum.opposite Datum.sum
    simp only [hb]
    have e1 : signed false (2 ^ 52) (-52 - e).toNat + signed (!false) m (e - e).toNat = (t : Int) := by
      unfold signed
      simp only [Bool.false_eq_true, if_false, Bool.not_false, if_true, Nat.shiftLeft_eq, Int.sub_self, Int.toNat_zero, Nat.pow_zero, Nat.mul_one]
      omega
    rw [e1]
    have e2 : (if (t : Int) = 0 then false && !false else decide ((t : Int) < 0)) = false := by
      split
      · rfl
      · simp
    rw [e2, Int.natAbs_natCast]
    rfl
  refine ⟨_, hq, nearest_le _ _ (2 ^ 52) (-52) (Nat.le_refl _) (by decide) (by omega) ?_⟩
  rw [vle_iff e (Int.le_refl _) he]
  simp only [Int.sub_self, Int.toNat_zero, Nat.pow_zero, Nat.mul_one]
  omega
/-- sixty times it -/
theorem mul_le (B : Nat) (hB : B ≤ (-52 + 1074 : Int).toNat * 2 ^ 52 + 2 ^ 52) : ∃ Q, floatBits .mul .f64 B (fq 240) = some Q ∧ Q ≤ (-47 + 1074 : Int).toNat * 2 ^ 52 + 60 * 2 ^ 47 := by
  obtain ⟨m, e, hr, hv, he⟩ := read_le B (2 ^ 52) (-52) (Nat.le_refl _) (by decide) (by omega) (by omega) hB
  have h60 : double.read (fq 240) = .number false (60 * 2 ^ 47) (-47) := by decide
  have hc := (vle_iff e (Int.le_refl _) he).1 hv
  simp only [Int.sub_self, Int.toNat_zero, Nat.pow_zero, Nat.mul_one] at hc
  have hq : floatBits .mul .f64 B (fq 240) = some (double.nearest false (m * (60 * 2 ^ 47)) (e + -47)) := by
    show Option.map double.write ((double.read B).product (double.read (fq 240))) = _
    rw [h60, hr]
    rfl
  refine ⟨_, hq, nearest_le _ _ (60 * 2 ^ 47) (-47) (by decide) (by decide) (by omega) ?_⟩
  rw [vle_iff (e + -47) (Int.le_refl _) (by omega)]
  simp only [Int.sub_self, Int.toNat_zero, Nat.pow_zero, Nat.mul_one]
  have e1 : (-47 - (e + -47)).toNat = 52 + (-52 - e).toNat := by omega
  rw [e1, Nat.pow_add, Nat.mul_comm m]
  exact Nat.mul_le_mul_left _ hc
theorem cut_zero (m d : Nat) : Toward.zero.cut false m d = m / 2 ^ d := by
  unfold Toward.cut
  simp only [Nat.one_shiftLeft, Bool.toNat_false, Nat.add_zero]
  by_cases hd : d ≤ m.log2 + 2
  · rw [Nat.min_eq_left hd]
  · rw [Nat.min_eq_right (by omega)]
    by_cases h0 : m = 0
    · subst h0; simp
    · have h2 := (Nat.log2_eq_iff (k := m.log2) h0).1 rfl
      have h3 : m < 2 ^ (m.log2 + 2) := Nat.lt_trans h2.2 (Nat.pow_lt_pow_right (by omega) (by omega))
      have h4 : m < 2 ^ d := Nat.lt_trans h3 (Nat.pow_lt_pow_right (by omega) (by omega))
      rw [Nat.div_eq_of_lt h3, Nat.div_eq_of_lt h4]
/-- made whole by cutting -/
theorem whole_le (Q : Nat) (hQ : Q ≤ (-47 + 1074 : Int).toNat * 2 ^ 52 + 60 * 2 ^ 47) :
    ∃ n : Nat, n ≤ 60 ∧ floatToIntVal .f64 Q .i64 = some (n : Int) ∧ (double.order (fq (4 * n)) Q = some .lt ∨ double.order (fq (4 * n)) Q = some .eq) ∧ double.order Q (fq (4 * n + 4)) = some .lt := by
  obtain ⟨m, e, hr, hv, he⟩ := read_le Q (60 * 2 ^ 47) (-47) (by decide) (by decide) (by omega) (by omega) hQ
  obtain ⟨d, hd⟩ : ∃ d : Nat, e = -(d : Int) := ⟨(-e).toNat, by omega⟩
  subst hd
  have hc := (vle_iff (-(d : Int)) (Int.le_refl _) he).1 hv
  simp only [Int.sub_self, Int.toNat_zero, Nat.pow_zero, Nat.mul_one] at hc
  have hp := Nat.two_pow_pos d
  have hdm := Nat.div_add_mod m (2 ^ d)
  have hml := Nat.mod_lt m hp
  have e47 : 60 * 2 ^ 47 * 2 ^ (-47 - -(d : Int)).toNat = 60 * 2 ^ d := by
    rw [Nat.mul_assoc, ← Nat.pow_add]; congr 2; omega
  rw [e47] at hc
  have hn : m / 2 ^ d ≤ 60 := Nat.div_le_of_le_mul (by rw [Nat.mul_comm]; exact hc)
  have ord : ∀ (x : Nat), x ≤ 1000 → ∃ P : Int, 0 < P ∧ double.order (fq (4 * (x : Int))) Q = some (compare ((x : Int) * 2 ^ d * P) ((m : Int) * P)) ∧ double.order Q (fq (4 * (x : Int))) = some (compare ((m : Int) * P) ((x : Int) * 2 ^ d * P)) := by
    intro x hx
    obtain ⟨a, ha⟩ := read_fq (4 * (x : Int)) (by omega)
    have d1 : decide (4 * (x : Int) < 0) = false := by simp; omega
    rw [d1, show (4 * (x : Int)).natAbs = 4 * x by omega] at ha
    refine ⟨2 ^ (max (a + 2) d - d), by exact_mod_cast Nat.two_pow_pos _, ?_, ?_⟩
    · show (double.read _).order (double.read Q) = _
      rw [ha, hr]
      have e0 : min (-2 - (a : Int)) (-(d : Int)) = -((max (a + 2) d : Nat) : Int) := by omega
      have e1 : (-2 - (a : Int) - -((max (a + 2) d : Nat) : Int)).toNat = max (a + 2) d - (a + 2) := by omega
      have e2 : (-(d : Int) - -((max (a + 2) d : Nat) : Int)).toNat = max (a + 2) d - d := by omega
      unfold Datum.order
      simp only [e0, e1, e2]
      unfold signed
      simp only [Bool.false_eq_true, if_false, Nat.shiftLeft_eq]
      have e3 : 4 * x * 2 ^ a * 2 ^ (max (a + 2) d - (a + 2)) = x * 2 ^ d * 2 ^ (max (a + 2) d - d) := by
        rw [Nat.mul_assoc x, ← Nat.pow_add, show d + (max (a + 2) d - d) = max (a + 2) d by omega, show max (a + 2) d = (a + 2) + (max (a + 2) d - (a + 2)) by omega, Nat.pow_add, Nat.pow_add 2 a 2, Nat.add_sub_cancel_left, show (2 : Nat) ^ 2 = 4 from rfl, Nat.mul_comm 4 x, Nat.mul_assoc, Nat.mul_assoc, ← Nat.mul_assoc 4, Nat.mul_comm 4 (2 ^ a)]
      rw [e3]
      push_cast
      rfl
    · show (double.read Q).order (double.read _) = _
      rw [ha, hr]
      have e0 : min (-(d : Int)) (-2 - (a : Int)) = -((max (a + 2) d : Nat) : Int) := by omega
      have e1 : (-2 - (a : Int) - -((max (a + 2) d : Nat) : Int)).toNat = max (a + 2) d - (a + 2) := by omega
      have e2 : (-(d : Int) - -((max (a + 2) d : Nat) : Int)).toNat = max (a + 2) d - d := by omega
      unfold Datum.order
      simp only [e0, e1, e2]
      unfold signed
      simp only [Bool.false_eq_true, if_false, Nat.shiftLeft_eq]
      have e3 : 4 * x * 2 ^ a * 2 ^ (max (a + 2) d - (a + 2)) = x * 2 ^ d * 2 ^ (max (a + 2) d - d) := by
        rw [Nat.mul_assoc x, ← Nat.pow_add, show d + (max (a + 2) d - d) = max (a + 2) d by omega, show max (a + 2) d = (a + 2) + (max (a + 2) d - (a + 2)) by omega, Nat.pow_add, Nat.pow_add 2 a 2, Nat.add_sub_cancel_left, show (2 : Nat) ^ 2 = 4 from rfl, Nat.mul_comm 4 x, Nat.mul_assoc, Nat.mul_assoc, ← Nat.mul_assoc 4, Nat.mul_comm 4 (2 ^ a)]
      rw [e3]
      push_cast
      rfl
  have hfi : floatToIntVal .f64 Q .i64 = some ((m / 2 ^ d : Nat) : Int) := by
    have e1 : (FloatKind.f64.decode Q).toInt .zero = some ((m / 2 ^ d : Nat) : Int) := by
      show (double.read Q).toInt .zero = _
      rw [hr]
      unfold Datum.toInt Datum.integral
      simp only []
      rw [show (-(d : Int)).toNat = 0 by omega, show (- -(d : Int)).toNat = d by omega, Nat.shiftLeft_zero, cut_zero]
      unfold signed
      simp
    unfold floatToIntVal
    rw [e1]
    simp only []
    rw [if_pos]
    have hmin : IntKind.i64.min = -9223372036854775808 := by decide
    have hmax : IntKind.i64.max = 9223372036854775807 := by decide
    rw [hmin, hmax]
    generalize m / 2 ^ d = z at hn
    clear hc hdm hml
    omega
  generalize m / 2 ^ d = n at *
  refine ⟨n, hn, hfi, ?_, ?_⟩
  · obtain ⟨P, hP, h1, _⟩ := ord n (by omega)
    rw [h1]
    have hle : (n : Int) * 2 ^ d ≤ m := by
      have : n * 2 ^ d ≤ m := by rw [Nat.mul_comm]; omega
      exact_mod_cast this
    rcases Int.lt_or_eq_of_le hle with h | h
    · left
      have := Int.mul_lt_mul_of_pos_right h hP
      simp [compare, compareOfLessAndEq, this]
    · right
      rw [h]
      simp [compare, compareOfLessAndEq]
  · obtain ⟨P, hP, _, h2⟩ := ord (n + 1) (by omega)
    have e4 : (4 * (n : Int) + 4) = 4 * ((n + 1 : Nat) : Int) := by omega
    rw [e4, h2]
    have hlt : (m : Int) < ((n + 1 : Nat) : Int) * 2 ^ d := by
      have : m < (n + 1) * 2 ^ d := by rw [Nat.add_mul, Nat.mul_comm n]; omega
      exact_mod_cast this
    have := Int.mul_lt_mul_of_pos_right hlt hP
    simp only [compare, compareOfLessAndEq, this, if_true]
end Go.Proofs.YtilcmkiihefkkabGreatDoor.Mn
end
