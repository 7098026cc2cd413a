import Derived.Test.YtilcmkiihefkkaaWords
set_option linter.unusedVariables false
set_option linter.unusedSimpArgs false
set_option maxRecDepth 100000
namespace Go.Proofs.Ytilcmkiihefkkaa

/-- the numbers of the letters -/
def nums (l : List UInt8) : List Nat := l.map fun c => (numb c).toNat

def codeL (a : List Nat) : Nat := a.foldl (fun c m => 4 * c + m) 0
def tcodeL (a : List Nat) : Nat := codeL ((a.map (3 - ·)).reverse)

theorem codeL_snoc (a : List Nat) (m : Nat) : codeL (a ++ [m]) = 4 * codeL a + m := by simp [codeL]

theorem foldl_code (a : List Nat) : ∀ c, a.foldl (fun c m => 4 * c + m) c = c * 4 ^ a.length + codeL a := by
  induction a with
  | nil => intro c; simp [codeL]
  | cons m a ih =>
    intro c
    have h1 := ih (4 * c + m)
    have h2 := ih (4 * 0 + m)
    simp only [List.foldl_cons, List.length_cons, codeL] at *
    rw [h1, h2, Nat.pow_succ, Nat.add_mul, Nat.mul_zero, Nat.zero_add, show 4 * c * 4 ^ a.length = c * (4 ^ a.length * 4) by rw [Nat.mul_comm 4 c, Nat.mul_assoc, Nat.mul_comm 4]]
    omega

theorem codeL_cons (m : Nat) (a : List Nat) : codeL (m :: a) = m * 4 ^ a.length + codeL a := by
  have := foldl_code a (4 * 0 + m)
  simpa [codeL] using this

theorem tcodeL_snoc (a : List Nat) (m : Nat) : tcodeL (a ++ [m]) = (3 - m) * 4 ^ a.length + tcodeL a := by
  unfold tcodeL
  rw [List.map_append, List.reverse_append]
  simp only [List.map_cons, List.map_nil, List.reverse_cons, List.reverse_nil, List.nil_append, List.singleton_append]
  rw [codeL_cons]
  simp

theorem codeL_lt (a : List Nat) : (∀ m ∈ a, m < 4) → codeL a < 4 ^ a.length := by
  induction a with
  | nil => intro _; simp [codeL]
  | cons m a ih =>
    intro h
    have h1 := ih (fun x hx => h x (List.mem_cons_of_mem _ hx))
    have h2 := h m (List.mem_cons_self ..)
    rw [codeL_cons, List.length_cons, Nat.pow_succ]
    have : m * 4 ^ a.length ≤ 3 * 4 ^ a.length := Nat.mul_le_mul_right _ (by omega)
    omega

theorem tcodeL_lt (a : List Nat) : tcodeL a < 4 ^ a.length := by
  unfold tcodeL
  have := codeL_lt ((a.map (3 - ·)).reverse) (by
    intro m hm
    simp at hm
    obtain ⟨x, _, rfl⟩ := hm
    omega)
  simpa using this

/-- k letters from a place on -/
def seg (a : List Nat) (p k : Nat) : List Nat := (a.drop p).take k

theorem seg_length (a : List Nat) (p k : Nat) (h : p + k ≤ a.length) : (seg a p k).length = k := by
  unfold seg
  rw [List.length_take, List.length_drop]
  omega

theorem seg_succ (a : List Nat) (p k : Nat) (h : p + k < a.length) : seg a p (k + 1) = seg a p k ++ [a[p + k]] := by
  unfold seg
  rw [List.take_succ_eq_append_getElem (by rw [List.length_drop]; omega), List.getElem_drop]

/-- is there a word at a place? -/
def isW (a : List Nat) (k p : Nat) : Bool := decide (p + k ≤ a.length) && (seg a p k).all (fun m => decide (m < 4))

/-- letters without N, up to a place -/
def trail (a : List Nat) : Nat → Nat
  | 0 => 0
  | i + 1 => if a.getD i 0 = 4 then 0 else trail a i + 1

theorem trail_le (a : List Nat) : ∀ i, trail a i ≤ i
  | 0 => Nat.le_refl _
  | i + 1 => by
    have := trail_le a i
    unfold trail
    split <;> omega

theorem trail_iff (a : List Nat) (hb : ∀ m ∈ a, m < 5) : ∀ (i : Nat), i ≤ a.length → ∀ r, r ≤ trail a i ↔ (r ≤ i ∧ ∀ m ∈ seg a (i - r) r, m < 4) := by
  intro i
  induction i with
  | zero =>
    intro _ r
    constructor
    · intro h
      have : r = 0 := by simpa [trail] using h
      subst this
      exact ⟨Nat.le_refl _, by simp [seg]⟩
    · intro h
      exact h.1
  | succ i ih =>
    intro hi r
    cases r with
    | zero => simp [seg]
    | succ r =>
      have hget : a.getD i 0 = a[i] := by rw [List.getD_eq_getElem?_getD, List.getElem?_eq_getElem (by omega)]; rfl
      have ha5 := hb a[i] (List.getElem_mem _)
      unfold trail
      rw [hget]
      by_cases h4 : a[i] = 4
      · rw [if_pos h4]
        constructor
        · intro h; omega
        · intro ⟨h1, h2⟩
          exfalso
          have := h2 a[i] (by
            rw [show i + 1 - (r + 1) = i - r by omega, seg_succ a (i - r) r (by omega)]
            have e : i - r + r = i := by omega
            simp [e])
          omega
      · rw [if_neg h4, Nat.add_le_add_iff_right, ih (by omega) r]
        constructor
        · intro ⟨h1, h2⟩
          refine ⟨by omega, ?_⟩
          intro m hm
          rw [show i + 1 - (r + 1) = i - r by omega, seg_succ a (i - r) r (by omega), List.mem_append] at hm
          rcases hm with hm | hm
          · exact h2 m hm
          · have e : i - r + r = i := by omega
            simp [e] at hm
            omega
        · intro ⟨h1, h2⟩
          refine ⟨by omega, ?_⟩
          intro m hm
          refine h2 m ?_
          rw [show i + 1 - (r + 1) = i - r by omega, seg_succ a (i - r) r (by omega)]
          exact List.mem_append_left _ hm

theorem isW_iff (a : List Nat) (hb : ∀ m ∈ a, m < 5) (k i : Nat) (hi : i ≤ a.length) (hk : k ≤ i) : isW a k (i - k) = true ↔ k ≤ trail a i := by
  rw [trail_iff a hb i hi k]
  unfold isW
  rw [Bool.and_eq_true, decide_eq_true_iff, List.all_eq_true]
  constructor
  · intro ⟨_, h⟩
    exact ⟨hk, fun m hm => by simpa using h m hm⟩
  · intro ⟨_, h⟩
    exact ⟨by omega, fun m hm => by simpa using h m hm⟩

/-- the word at a place, if it stands for something -/
def candW (a : List Nat) (k p : Nat) : Option W3 := if isW a k p = true then candOf k p (codeL (seg a p k)) (tcodeL (seg a p k)) else none

/-- the picker alone -/
structure PkSt where
  next : Int
  prun : Int
  L : List W3
  M : List W3

def pkStep (k W : Nat) (a : List Nat) (st : PkSt) (p : Nat) : PkSt :=
  if isW a k p = true then
    ⟨(p : Int) + 1, stepR st.next st.prun p, stepL W st.next p st.L (candW a k p), stepM W (stepR st.next st.prun p) (stepL W st.next p st.L (candW a k p)) st.M⟩
  else st

def pkRun (k W : Nat) (a : List Nat) : Nat → PkSt
  | 0 => ⟨0, 0, [], []⟩
  | p + 1 => pkStep k W a (pkRun k W a p) p

/-- what the scanner knows -/
structure ScI (k : Nat) (a : List Nat) (st : ScSt) (i : Nat) : Prop where
  run : st.run = trail a i
  code : ∀ r, r ≤ k → r ≤ st.run → st.code % 4 ^ r = codeL (seg a (i - r) r)
  turned : ∀ r, r ≤ k → r ≤ st.run → st.turned / 4 ^ (k - r) = tcodeL (seg a (i - r) r)

theorem nums_getD (l : List UInt8) (i : Nat) (h : i < l.length) : (numb (l.getD i 0)).toNat = (nums l).getD i 0 := by
  have h' : i < (nums l).length := by simpa [nums] using h
  rw [List.getD_eq_getElem?_getD, List.getD_eq_getElem?_getD, List.getElem?_eq_getElem h, List.getElem?_eq_getElem h']
  simp [nums]

theorem pow_split (k r : Nat) (h : r ≤ k) : (4 : Nat) ^ k = 4 ^ (k - r) * 4 ^ r := by
  rw [← Nat.pow_add]
  congr 1
  omega

theorem scRun_pk (k W : Nat) (hk1 : 1 ≤ k) (hk2 : k ≤ 12) (l : List UInt8) (hg : ∀ i, i < l.length → 0 ≤ numb (l.getD i 0)) (hb5 : ∀ m ∈ nums l, m < 5) :
    ∀ i, i ≤ l.length → ScI k (nums l) (scRun k W l i) i ∧ (⟨(scRun k W l i).next, (scRun k W l i).prun, (scRun k W l i).L, (scRun k W l i).M⟩ : PkSt) = pkRun k W (nums l) (i + 1 - k) := by
  intro i
  induction i with
  | zero =>
    intro _
    refine ⟨⟨rfl, ?_, ?_⟩, ?_⟩
    · intro r _ hr
      have : r = 0 := by simpa [scRun] using hr
      subst this
      simp [seg, codeL, Nat.mod_one]
    · intro r hr1 hr
      have : r = 0 := by simpa [scRun] using hr
      subst this
      simp [seg, tcodeL, codeL, scRun]
    · rw [show 0 + 1 - k = 0 by omega]
      rfl
  | succ i ih =>
    intro hi
    obtain ⟨⟨h1, h2, h3⟩, h4⟩ := ih (by omega)
    have hbd := scRun_bounds k W hk1 hk2 l hg i (by omega)
    have hlen : (nums l).length = l.length := by simp [nums]
    have hstep : scRun k W l (i + 1) = scStep k W (scRun k W l i) i ((nums l).getD i 0) := by
      show scStep k W (scRun k W l i) i (numb (l.getD i 0)).toNat = _
      rw [nums_getD l i (by omega)]
    have hget : (nums l).getD i 0 = (nums l)[i]'(by omega) := by rw [List.getD_eq_getElem?_getD, List.getElem?_eq_getElem (by omega)]; rfl
    have hm5 : (nums l).getD i 0 < 5 := by rw [hget]; exact hb5 _ (List.getElem_mem _)
    have htr : trail (nums l) (i + 1) = if (nums l).getD i 0 = 4 then 0 else trail (nums l) i + 1 := rfl
    generalize hst : scRun k W l i = st at *
    generalize hm : (nums l).getD i 0 = m at *
    rw [hstep]
    have hp := pow_cases k hk1 hk2
    by_cases h5 : m = 4
    · have e1 : scStep k W st i m = { st with run := 0 } := by unfold scStep; rw [if_pos h5]
      rw [e1]
      rw [if_pos h5] at htr
      refine ⟨⟨htr.symm, ?_, ?_⟩, ?_⟩
      · intro r _ hr
        have : r = 0 := by simpa using hr
        subst this
        simp [seg, codeL, Nat.mod_one]
      · intro r _ hr
        have : r = 0 := by simpa using hr
        subst this
        have := h3 0 (Nat.zero_le _) (Nat.zero_le _)
        simpa [seg, tcodeL, codeL] using this
      · show (⟨st.next, st.prun, st.L, st.M⟩ : PkSt) = _
        rw [h4]
        by_cases hik : i + 1 < k
        · rw [show i + 1 + 1 - k = i + 1 - k by omega]
        · rw [show i + 1 + 1 - k = (i + 1 - k) + 1 by omega]
          have hw : ¬ isW (nums l) k (i + 1 - k) = true := by
            rw [isW_iff (nums l) hb5 k (i + 1) (by omega) (by omega)]
            omega
          show _ = pkStep k W (nums l) (pkRun k W (nums l) (i + 1 - k)) (i + 1 - k)
          unfold pkStep
          rw [if_neg hw]
    · rw [if_neg h5] at htr
      have hm4 : m < 4 := by omega
      have hsegs : ∀ r, r ≤ i → seg (nums l) (i + 1 - (r + 1)) (r + 1) = seg (nums l) (i - r) r ++ [m] := by
        intro r hr
        rw [show i + 1 - (r + 1) = i - r by omega, seg_succ (nums l) (i - r) r (by omega)]
        have e : i - r + r = i := by omega
        rw [hget]
        simp [e]
      have hcode : ∀ r, r ≤ k → r ≤ st.run + 1 → ((4 * st.code + m) % 4 ^ k) % 4 ^ r = codeL (seg (nums l) (i + 1 - r) r) := by
        intro r hr1 hr2
        cases r with
        | zero => simp [seg, codeL, Nat.mod_one]
        | succ r =>
          have hri : r ≤ i := by have := trail_le (nums l) i; omega
          rw [hsegs r hri, codeL_snoc, ← h2 r (by omega) (by omega), pow_split k (r + 1) hr1, Nat.mod_mul_left_mod, Nat.pow_succ]
          have hpos : 0 < 4 ^ r := Nat.pow_pos (by omega)
          have e1 : st.code = 4 ^ r * (st.code / 4 ^ r) + st.code % 4 ^ r := (Nat.div_add_mod _ _).symm
          have hlt : st.code % 4 ^ r < 4 ^ r := Nat.mod_lt _ hpos
          have e2 : 4 * st.code + m = (4 * (st.code % 4 ^ r) + m) + (4 ^ r * 4) * (st.code / 4 ^ r) := by
            rw [Nat.mul_comm (4 ^ r) 4, Nat.mul_assoc 4]
            omega
          rw [e2, Nat.add_mul_mod_self_left, Nat.mod_eq_of_lt (by omega)]
      have hturned : ∀ r, r ≤ k → r ≤ st.run + 1 → (st.turned / 4 + (3 - m) * 4 ^ (k - 1)) / 4 ^ (k - r) = tcodeL (seg (nums l) (i + 1 - r) r) := by
        intro r hr1 hr2
        cases r with
        | zero =>
          have := turned_lt k st.turned m hk1 hk2 hbd.turned hm4
          rw [Nat.sub_zero, Nat.div_eq_of_lt this]
          simp [seg, tcodeL, codeL]
        | succ r =>
          have hri : r ≤ i := by have := trail_le (nums l) i; omega
          rw [hsegs r hri, tcodeL_snoc, ← h3 r (by omega) (by omega), seg_length (nums l) (i - r) r (by omega)]
          have e1 : 4 ^ (k - 1) = 4 ^ (k - (r + 1)) * 4 ^ r := by rw [← Nat.pow_add]; congr 1; omega
          have e2 : 4 ^ (k - r) = 4 * 4 ^ (k - (r + 1)) := by rw [← Nat.pow_succ']; congr 1; omega
          have hpos : 0 < 4 ^ (k - (r + 1)) := Nat.pow_pos (by omega)
          rw [e1, e2, ← Nat.div_div_eq_div_mul, show (3 - m) * (4 ^ (k - (r + 1)) * 4 ^ r) = 4 ^ (k - (r + 1)) * ((3 - m) * 4 ^ r) by rw [Nat.mul_left_comm], Nat.add_mul_div_left _ _ hpos]
          omega
      by_cases hge : k ≤ st.run + 1
      · unfold scStep
        rw [if_neg h5, if_pos hge]
        have hc : (4 * st.code + m) % 4 ^ k = codeL (seg (nums l) (i + 1 - k) k) := by
          have := hcode k (Nat.le_refl _) hge
          rwa [Nat.mod_mod] at this
        have ht : st.turned / 4 + (3 - m) * 4 ^ (k - 1) = tcodeL (seg (nums l) (i + 1 - k) k) := by
          have := hturned k (Nat.le_refl _) hge
          rwa [Nat.sub_self, Nat.pow_zero, Nat.div_one] at this
        have hki : k ≤ i + 1 := by have := trail_le (nums l) i; omega
        have hw : isW (nums l) k (i + 1 - k) = true := by
          rw [isW_iff (nums l) hb5 k (i + 1) (by omega) hki]
          omega
        refine ⟨⟨by show st.run + 1 = _; omega, hcode, hturned⟩, ?_⟩
        rw [show i + 1 + 1 - k = (i + 1 - k) + 1 by omega]
        show _ = pkStep k W (nums l) (pkRun k W (nums l) (i + 1 - k)) (i + 1 - k)
        rw [← h4]
        unfold pkStep
        rw [if_pos hw]
        unfold candW
        rw [if_pos hw, ← hc, ← ht]
      · unfold scStep
        rw [if_neg h5, if_neg hge]
        refine ⟨⟨by show st.run + 1 = _; omega, hcode, hturned⟩, ?_⟩
        show (⟨st.next, st.prun, st.L, st.M⟩ : PkSt) = _
        rw [h4]
        by_cases hik : i + 1 < k
        · rw [show i + 1 + 1 - k = i + 1 - k by omega]
        · rw [show i + 1 + 1 - k = (i + 1 - k) + 1 by omega]
          have hw : ¬ isW (nums l) k (i + 1 - k) = true := by
            rw [isW_iff (nums l) hb5 k (i + 1) (by omega) (by omega)]
            omega
          show _ = pkStep k W (nums l) (pkRun k W (nums l) (i + 1 - k)) (i + 1 - k)
          unfold pkStep
          rw [if_neg hw]

end Go.Proofs.Ytilcmkiihefkkaa
