import Derived.Test.YtilcmkiihefkkabGreatDoorJk13
section
set_option linter.unusedVariables false
set_option linter.unusedSimpArgs false
set_option maxRecDepth 100000
namespace Go.Proofs.YtilcmkiihefkkabGreatDoor.Mn
/-- W words side by side, the last one at a place -/
def IsWin (a : List Nat) (k W e : Nat) : Prop := W ≤ e + 1 ∧ ∀ j, e + 1 - W ≤ j → j ≤ e → isW a k j = true
/-- the word that stands for the window that ends at e: the first of the least ones -/
def Stands (a : List Nat) (k W e : Nat) (x : W3) : Prop :=
  IsWin a k W e ∧ ∃ i : Nat, e + 1 - W ≤ i ∧ i ≤ e ∧ candW a k i = some x ∧
    (∀ j y, e + 1 - W ≤ j → j ≤ e → candW a k j = some y → x.h ≤ y.h) ∧ (∀ j y, e + 1 - W ≤ j → j < i → candW a k j = some y → x.h < y.h)
theorem Stands.mono {a : List Nat} {k W e q : Nat} {x y : W3} (h1 : Stands a k W e y) (h2 : Stands a k W q x) (he : e ≤ q) : y.p ≤ x.p := by
  obtain ⟨_, i, hi1, hi2, hi3, hi4, hi5⟩ := h1
  obtain ⟨_, j, hj1, hj2, hj3, hj4, hj5⟩ := h2
  have hyp := candW_p hi3
  have hxp := candW_p hj3
  by_cases hlt : i ≤ j
  · omega
  · exfalso
    have a1 := hi5 j x (by omega) (by omega) hj3
    have a2 := hj4 i y (by omega) (by omega) hi3
    omega
def dropHd (lim : Int) : List W3 → List W3
  | [] => []
  | x :: t => if x.p ≤ lim then t else x :: t
theorem dropHd_pos {lim : Int} {x : W3} (t : List W3) (h : x.p ≤ lim) : dropHd lim (x :: t) = t := by simp [dropHd, h]
theorem dropHd_neg {lim : Int} {x : W3} (t : List W3) (h : ¬ x.p ≤ lim) : dropHd lim (x :: t) = x :: t := by simp [dropHd]; omega
theorem mvL_eq (W next place : Int) (L : List W3) : mvL W next place L = if place = next then dropHd (place - W) L else [] := by
  unfold mvL
  cases L <;> rfl
def pickH (M : List W3) : List W3 → List W3
  | [] => M
  | x :: _ => pickL M x
theorem stepM_eq (W r : Int) (L2 M : List W3) : stepM W r L2 M = if W ≤ r then pickH M L2 else M := by
  unfold stepM
  cases L2 <;> rfl
/-- the queue -/
structure QI (a : List Nat) (k lo hi : Nat) (L : List W3) : Prop where
  mem : ∀ x ∈ L, ∃ i : Nat, candW a k i = some x ∧ lo ≤ i ∧ i < hi
  inc : L.Pairwise (fun x y => x.p < y.p)
  asc : L.Pairwise (fun x y => x.h ≤ y.h)
  all : ∀ i y, lo ≤ i → i < hi → candW a k i = some y → y ∈ L ∨ ∃ x ∈ L, (i : Int) < x.p ∧ x.h < y.h
theorem keepL_spec (L : List W3) (h : Int) (hs : L.Pairwise (fun x y => x.h ≤ y.h)) : ∃ D, L = keepL L h ++ D ∧ (∀ y ∈ D, h < y.h) ∧ (∀ y ∈ keepL L h, y.h ≤ h) := by
  induction hr : L.length generalizing L with
  | zero =>
    obtain rfl : L = [] := List.eq_nil_of_length_eq_zero hr
    exact ⟨[], rfl, by simp, by simp [keepL]⟩
  | succ n ih =>
    rcases List.eq_nil_or_concat L with rfl | ⟨L', y, rfl⟩
    · simp at hr
    · rw [List.concat_eq_append] at hs hr ⊢
      rw [List.pairwise_append] at hs
      by_cases hy : h < y.h
      · obtain ⟨D, h1, h2, h3⟩ := ih L' hs.1 (by simpa using hr)
        rw [keepL_append_drop L' y h hy]
        refine ⟨D ++ [y], by rw [← List.append_assoc, ← h1], ?_, h3⟩
        intro z hz
        rw [List.mem_append] at hz
        rcases hz with hz | hz
        · exact h2 z hz
        · simp at hz; subst hz; exact hy
      · rw [keepL_append_stay L' y h hy]
        refine ⟨[], by simp, by simp, ?_⟩
        intro z hz
        rw [List.mem_append] at hz
        rcases hz with hz | hz
        · have := hs.2.2 z hz y (by simp)
          omega
        · simp at hz; subst hz; omega
/-- the window moves on, and takes a word in -/
theorem QI.add {a : List Nat} {k lo q : Nat} {L : List W3} (h : QI a k lo q L) (hlo : lo ≤ q) : QI a k lo (q + 1) (match candW a k q with | none => L | some x => keepL L x.h ++ [x]) := by
  cases hc : candW a k q with
  | none =>
    refine ⟨fun x hx => ?_, h.inc, h.asc, ?_⟩
    · obtain ⟨i, h1, h2, h3⟩ := h.mem x hx
      exact ⟨i, h1, h2, by omega⟩
    · intro i y h1 h2 h3
      by_cases hi : i = q
      · subst hi; rw [hc] at h3; exact absurd h3 (by simp)
      · exact h.all i y h1 (by omega) h3
  | some x =>
    obtain ⟨D, hD1, hD2, hD3⟩ := keepL_spec L x.h h.asc
    have hxp := candW_p hc
    have hsub : ∀ y ∈ keepL L x.h, y ∈ L := fun y hy => by rw [hD1]; exact List.mem_append_left _ hy
    have hinc : (keepL L x.h).Pairwise (fun x y => x.p < y.p) := by
      have := h.inc
      rw [hD1, List.pairwise_append] at this
      exact this.1
    have hasc : (keepL L x.h).Pairwise (fun x y => x.h ≤ y.h) := by
      have := h.asc
      rw [hD1, List.pairwise_append] at this
      exact this.1
    have hpl : ∀ y ∈ L, y.p < q := fun y hy => by
      obtain ⟨i, h1, h2, h3⟩ := h.mem y hy
      have := candW_p h1
      omega
    refine ⟨?_, ?_, ?_, ?_⟩
    · intro y hy
      rw [List.mem_append] at hy
      rcases hy with hy | hy
      · obtain ⟨i, h1, h2, h3⟩ := h.mem y (hsub y hy)
        exact ⟨i, h1, h2, by omega⟩
      · simp at hy; subst hy
        exact ⟨q, hc, hlo, by omega⟩
    · rw [List.pairwise_append]
      refine ⟨hinc, by simp, fun y hy z hz => ?_⟩
      simp at hz; subst hz
      have := hpl y (hsub y hy)
      omega
    · rw [List.pairwise_append]
      refine ⟨hasc, by simp, fun y hy z hz => ?_⟩
      simp at hz; subst hz
      exact hD3 y hy
    · intro i y h1 h2 h3
      by_cases hi : i = q
      · subst hi
        rw [hc] at h3
        simp only [Option.some.injEq] at h3
        subst h3
        exact Or.inl (by simp)
      · rcases h.all i y h1 (by omega) h3 with hy | ⟨z, hz, hz1, hz2⟩
        · rw [hD1, List.mem_append] at hy
          rcases hy with hy | hy
          · exact Or.inl (List.mem_append_left _ hy)
          · exact Or.inr ⟨x, by simp, by omega, hD2 y hy⟩
        · rw [hD1, List.mem_append] at hz
          rcases hz with hz | hz
          · exact Or.inr ⟨z, List.mem_append_left _ hz, hz1, hz2⟩
          · exact Or.inr ⟨x, by simp, by omega, by have := hD2 z hz; omega⟩
/-- the window's first place is left -/
theorem QI.drop {a : List Nat} {k lo q W : Nat} {L : List W3} (h : QI a k lo q L) (hlo : lo + W = q) : QI a k (lo + 1) q (dropHd ((q : Int) - W) L) := by
  cases L with
  | nil =>
    show QI a k (lo + 1) q []
    refine ⟨by simp, by simp, by simp, ?_⟩
    intro i y h1 h2 h3
    exact h.all i y (by omega) h2 h3
  | cons x t =>
    have hx := h.mem x (by simp)
    obtain ⟨ix, hx1, hx2, hx3⟩ := hx
    have hxp := candW_p hx1
    have hinc := h.inc
    have hasc := h.asc
    rw [List.pairwise_cons] at hinc hasc
    by_cases hexp : x.p ≤ (q : Int) - W
    · have e : dropHd ((q : Int) - W) (x :: t) = t := dropHd_pos t hexp
      rw [e]
      have hxl : ix = lo := by omega
      refine ⟨?_, hinc.2, hasc.2, ?_⟩
      · intro y hy
        obtain ⟨i, h1, h2, h3⟩ := h.mem y (List.mem_cons_of_mem _ hy)
        have := hinc.1 y hy
        have := candW_p h1
        exact ⟨i, h1, by omega, h3⟩
      · intro i y h1 h2 h3
        have hyp := candW_p h3
        rcases h.all i y (by omega) h2 h3 with hy | ⟨z, hz, hz1, hz2⟩
        · rw [List.mem_cons] at hy
          rcases hy with rfl | hy
          · omega
          · exact Or.inl hy
        · rw [List.mem_cons] at hz
          rcases hz with rfl | hz
          · omega
          · exact Or.inr ⟨z, hz, hz1, hz2⟩
    · have e : dropHd ((q : Int) - W) (x :: t) = x :: t := dropHd_neg t hexp
      rw [e]
      refine ⟨?_, h.inc, h.asc, ?_⟩
      · intro y hy
        obtain ⟨i, h1, h2, h3⟩ := h.mem y hy
        have hyp := candW_p h1
        have : x.p ≤ y.p := by
          rw [List.mem_cons] at hy
          rcases hy with rfl | hy
          · omega
          · have := hinc.1 y hy; omega
        exact ⟨i, h1, by omega, h3⟩
      · intro i y h1 h2 h3
        exact h.all i y (by omega) h2 h3
/-- the head of the queue stands for the window -/
theorem QI.head {a : List Nat} {k W e : Nat} {x : W3} {t : List W3} (hW : W ≤ e + 1) (h : QI a k (e + 1 - W) (e + 1) (x :: t)) (hw : IsWin a k W e) : Stands a k W e x := by
  obtain ⟨i, h1, h2, h3⟩ := h.mem x (by simp)
  have hinc := h.inc
  have hasc := h.asc
  rw [List.pairwise_cons] at hinc hasc
  have hxp := candW_p h1
  refine ⟨hw, i, h2, by omega, h1, ?_, ?_⟩
  · intro j y hj1 hj2 hj3
    rcases h.all j y hj1 (by omega) hj3 with hy | ⟨z, hz, hz1, hz2⟩
    · rw [List.mem_cons] at hy
      rcases hy with rfl | hy
      · exact Int.le_refl _
      · exact hasc.1 y hy
    · rw [List.mem_cons] at hz
      rcases hz with rfl | hz
      · omega
      · have := hasc.1 z hz; omega
  · intro j y hj1 hj2 hj3
    have hyp := candW_p hj3
    rcases h.all j y hj1 (by omega) hj3 with hy | ⟨z, hz, hz1, hz2⟩
    · rw [List.mem_cons] at hy
      rcases hy with rfl | hy
      · omega
      · have := hinc.1 y hy; omega
    · rw [List.mem_cons] at hz
      rcases hz with rfl | hz
      · exact hz2
      · have := hasc.1 z hz; omega
theorem QI.none {a : List Nat} {k W e : Nat} (h : QI a k (e + 1 - W) (e + 1) []) : ∀ x, ¬ Stands a k W e x := by
  intro x ⟨_, i, h1, h2, h3, _⟩
  rcases h.all i x h1 (by omega) h3 with hy | ⟨z, hz, _⟩
  · simp at hy
  · simp at hz
/-- the picker's state behind the places below q -/
structure PkI (a : List Nat) (k W q : Nat) (st : PkSt) : Prop where
  ex : ∃ nx r : Nat, st.next = nx ∧ st.prun = r ∧ nx ≤ q ∧ r ≤ nx ∧ (∀ j, nx ≤ j → j < q → isW a k j = false) ∧ (∀ j, nx - r ≤ j → j < nx → isW a k j = true) ∧
    (nx - r = 0 ∨ isW a k (nx - r - 1) = false) ∧ QI a k (nx - min W r) nx st.L
  inc : st.M.Pairwise (fun x y => x.p < y.p)
  mem : ∀ x ∈ st.M, ∃ e, e < q ∧ Stands a k W e x
  all : ∀ e x, e < q → Stands a k W e x → x ∈ st.M
theorem stands_isW {a : List Nat} {k W e : Nat} {x : W3} (hW : 1 ≤ W) (h : Stands a k W e x) : isW a k e = true := h.1.2 e (by omega) (Nat.le_refl _)
theorem cand_uniq {a : List Nat} {k W e e' : Nat} {x y : W3} (h1 : Stands a k W e x) (h2 : Stands a k W e' y) (hp : x.p = y.p) : x = y := by
  obtain ⟨_, i, _, _, hi, _⟩ := h1
  obtain ⟨_, j, _, _, hj, _⟩ := h2
  have := candW_p hi
  have := candW_p hj
  have e1 : i = j := by omega
  subst e1
  rw [hi] at hj
  exact Option.some.inj hj
theorem stands_uniq {a : List Nat} {k W e : Nat} {x y : W3} (h1 : Stands a k W e x) (h2 : Stands a k W e y) : x = y := by
  have a1 := h1.mono h2 (Nat.le_refl _)
  have a2 := h2.mono h1 (Nat.le_refl _)
  exact cand_uniq h1 h2 (by omega)
theorem pkI (a : List Nat) (k W : Nat) (hW : 1 ≤ W) : ∀ q, PkI a k W q (pkRun k W a q) := by
  intro q
  induction q with
  | zero =>
    refine ⟨⟨0, 0, rfl, rfl, Nat.le_refl _, Nat.le_refl _, fun j h1 h2 => absurd h2 (by omega), fun j h1 h2 => absurd h2 (by omega), Or.inl rfl, ⟨by simp [pkRun], by simp [pkRun], by simp [pkRun], fun i y h1 h2 => absurd h2 (by omega)⟩⟩, by simp [pkRun], by simp [pkRun], fun e x he => absurd he (by omega)⟩
  | succ q ih =>
    obtain ⟨⟨nx, r, h1, h2, h3, h4, h5, h6, h7, h8⟩, m1, m2, m3⟩ := ih
    show PkI a k W (q + 1) (pkStep k W a (pkRun k W a q) q)
    generalize pkRun k W a q = st at *
    unfold pkStep
    by_cases hw : isW a k q = true
    · rw [if_pos hw]
      -- how far the run goes
      obtain ⟨r', hr', hrr, hrun, hmax, hq⟩ : ∃ r' : Nat, stepR st.next st.prun q = r' ∧ (1 ≤ r' ∧ r' ≤ q + 1) ∧ (∀ j, q + 1 - r' ≤ j → j < q + 1 → isW a k j = true) ∧ (q + 1 - r' = 0 ∨ isW a k (q + 1 - r' - 1) = false) ∧ QI a k (q + 1 - min W r') q (mvL W st.next q st.L) := by
        by_cases hnx : nx = q
        · subst hnx
          refine ⟨r + 1, ?_, by omega, ?_, ?_, ?_⟩
          · unfold stepR; rw [h1, h2, if_pos rfl]; omega
          · intro j hj1 hj2
            by_cases hj : j = nx
            · subst hj; exact hw
            · exact h6 j (by omega) (by omega)
          · rcases h7 with h | h
            · exact Or.inl (by omega)
            · by_cases h0 : nx - r = 0
              · exact Or.inl (by omega)
              · exact Or.inr (by rw [show nx + 1 - (r + 1) - 1 = nx - r - 1 by omega]; exact h)
          · rw [mvL_eq, h1, if_pos rfl]
            by_cases hrW : r + 1 ≤ W
            · have e1 : nx + 1 - min W (r + 1) = nx - min W r := by omega
              rw [e1]
              have hsame : dropHd ((nx : Int) - W) st.L = st.L := by
                cases hL : st.L with
                | nil => rfl
                | cons x t =>
                  obtain ⟨i, hi1, hi2, hi3⟩ := h8.mem x (by rw [hL]; simp)
                  have := candW_p hi1
                  exact dropHd_neg t (by omega)
              rw [hsame]
              exact h8
            · have e1 : nx + 1 - min W (r + 1) = (nx - W) + 1 := by omega
              have e2 : nx - min W r = nx - W := by omega
              rw [e1]
              rw [e2] at h8
              exact h8.drop (by omega)
        · refine ⟨1, ?_, by omega, ?_, ?_, ?_⟩
          · unfold stepR; rw [h1, if_neg (by omega)]; omega
          · intro j hj1 hj2
            obtain rfl : j = q := by omega
            exact hw
          · by_cases h0 : q = 0
            · exact Or.inl (by omega)
            · exact Or.inr (h5 _ (by omega) (by omega))
          · rw [mvL_eq, h1, if_neg (by omega)]
            refine ⟨by simp, by simp, by simp, fun i y hi1 hi2 => absurd hi2 ?_⟩
            have : min W 1 = 1 := Nat.min_eq_right hW
            omega
      have hL2 : QI a k (q + 1 - min W r') (q + 1) (stepL W st.next q st.L (candW a k q)) := by
        have := hq.add (by omega)
        unfold stepL
        cases hc : candW a k q with
        | none => rw [hc] at this; exact this
        | some x => rw [hc] at this; exact this
      have hwin : W ≤ r' ↔ IsWin a k W q := by
        constructor
        · intro h
          exact ⟨by omega, fun j hj1 hj2 => hrun j (by omega) (by omega)⟩
        · intro ⟨hx1, hx2⟩
          rcases Nat.lt_or_ge r' W with h | h
          · exfalso
            rcases hmax with h0 | h0
            · omega
            · have := hx2 (q + 1 - r' - 1) (by omega) (by omega)
              rw [h0] at this
              exact absurd this (by simp)
          · exact h
      rw [hr']
      generalize hL : stepL W st.next q st.L (candW a k q) = L2 at *
      have hex : ∃ nx r : Nat, ((q : Int) + 1) = nx ∧ (r' : Int) = r ∧ nx ≤ q + 1 ∧ r ≤ nx ∧ (∀ j, nx ≤ j → j < q + 1 → isW a k j = false) ∧ (∀ j, nx - r ≤ j → j < nx → isW a k j = true) ∧ (nx - r = 0 ∨ isW a k (nx - r - 1) = false) ∧ QI a k (nx - min W r) nx L2 :=
        ⟨q + 1, r', by omega, rfl, Nat.le_refl _, hrr.2, fun j hj1 hj2 => absurd hj2 (by omega), hrun, hmax, hL2⟩
      by_cases hge : W ≤ r'
      · have hiw := hwin.1 hge
        rw [Nat.min_eq_left hge] at hL2
        have hstep : stepM (W : Int) (r' : Int) L2 st.M = pickH st.M L2 := by rw [stepM_eq, if_pos (by omega)]
        rw [hstep]
        cases L2 with
        | nil =>
          refine ⟨hex, m1, fun x hx => ?_, ?_⟩
          · obtain ⟨e, he, hs⟩ := m2 x hx; exact ⟨e, by omega, hs⟩
          · intro e x he hs
            by_cases heq : e = q
            · subst heq; exact absurd hs (hL2.none x)
            · exact m3 e x (by omega) hs
        | cons x t =>
          have hsx := hL2.head (by omega) hiw
          have hpk : pickH st.M (x :: t) = pickL st.M x := rfl
          rw [hpk]
          have hle : ∀ y ∈ st.M, y.p ≤ x.p := fun y hy => by
            obtain ⟨e, he, hs⟩ := m2 y hy
            exact hs.mono hsx (by omega)
          have hcase : (pickL st.M x = st.M ∧ x ∈ st.M) ∨ (pickL st.M x = st.M ++ [x] ∧ ∀ y ∈ st.M, y.p < x.p) := by
            rcases List.eq_nil_or_concat st.M with hM | ⟨M', y, hM⟩
            · right
              rw [hM]
              exact ⟨rfl, by simp⟩
            · rw [List.concat_eq_append] at hM
              have hyM : y ∈ st.M := by rw [hM]; simp
              have hlast : st.M.getLast? = some y := by rw [hM]; simp
              by_cases hp : y.p = x.p
              · left
                refine ⟨by simp [pickL, hlast, hp], ?_⟩
                obtain ⟨e, he, hs⟩ := m2 y hyM
                have := cand_uniq hs hsx hp
                rw [← this]; exact hyM
              · right
                refine ⟨by simp [pickL, hlast, hp], ?_⟩
                have hyx := hle y hyM
                intro z hz
                rw [hM, List.mem_append] at hz
                rcases hz with hz | hz
                · have hpw := m1
                  rw [hM, List.pairwise_append] at hpw
                  have := hpw.2.2 z hz y (by simp)
                  omega
                · simp at hz; subst hz; omega
          rcases hcase with ⟨e1, e2⟩ | ⟨e1, e2⟩
          · rw [e1]
            refine ⟨hex, m1, fun z hz => ?_, ?_⟩
            · obtain ⟨e, he, hs⟩ := m2 z hz; exact ⟨e, by omega, hs⟩
            · intro e z he hs
              by_cases heq : e = q
              · subst heq
                have := stands_uniq hs hsx
                show z ∈ st.M
                rw [this]; exact e2
              · exact m3 e z (by omega) hs
          · rw [e1]
            refine ⟨hex, ?_, ?_, ?_⟩
            · show (st.M ++ [x]).Pairwise _
              rw [List.pairwise_append]
              refine ⟨m1, by simp, fun y hy z hz => ?_⟩
              simp at hz; subst hz
              exact e2 y hy
            · intro z hz
              have hz' : z ∈ st.M ++ [x] := hz
              rw [List.mem_append] at hz'
              rcases hz' with hz' | hz'
              · obtain ⟨e, he, hs⟩ := m2 z hz'; exact ⟨e, by omega, hs⟩
              · simp at hz'; subst hz'; exact ⟨q, by omega, hsx⟩
            · intro e z he hs
              show z ∈ st.M ++ [x]
              by_cases heq : e = q
              · subst heq
                have := stands_uniq hs hsx
                rw [this]; simp
              · exact List.mem_append_left _ (m3 e z (by omega) hs)
      · have hstep : stepM (W : Int) (r' : Int) L2 st.M = st.M := by unfold stepM; rw [if_neg (by omega)]
        rw [hstep]
        refine ⟨hex, m1, fun x hx => ?_, ?_⟩
        · obtain ⟨e, he, hs⟩ := m2 x hx; exact ⟨e, by omega, hs⟩
        · intro e x he hs
          by_cases heq : e = q
          · subst heq; exact absurd (hwin.2 hs.1) hge
          · exact m3 e x (by omega) hs
    · rw [if_neg hw]
      have hw' : isW a k q = false := by simpa using hw
      refine ⟨⟨nx, r, h1, h2, by omega, h4, ?_, h6, h7, h8⟩, m1, fun x hx => ?_, ?_⟩
      · intro j hj1 hj2
        by_cases hj : j = q
        · subst hj; exact hw'
        · exact h5 j hj1 (by omega)
      · obtain ⟨e, he, hs⟩ := m2 x hx; exact ⟨e, by omega, hs⟩
      · intro e x he hs
        by_cases heq : e = q
        · subst heq; rw [stands_isW hW hs] at hw'; exact absurd hw' (by simp)
        · exact m3 e x (by omega) hs
end Go.Proofs.YtilcmkiihefkkabGreatDoor.Mn
end
section
set_option linter.unusedVariables false
set_option linter.unusedSimpArgs false
set_option maxRecDepth 100000
namespace Go.Proofs.YtilcmkiihefkkabGreatDoor.Mn
theorem wordsW (k W : Nat) (hk1 : 1 ≤ k) (hk2 : k ≤ 12) (l : List UInt8) (hg : ∀ i, i < l.length → 0 ≤ numb (l.getD i 0)) :
    (scRun k W l l.length).M = (pkRun k W (nums l) (l.length + 1 - k)).M := by
  have h := (scRun_pk k W hk1 hk2 l hg (nums_lt5 l) l.length (Nat.le_refl _)).2
  exact congrArg PkSt.M h
end Go.Proofs.YtilcmkiihefkkabGreatDoor.Mn
end
section
set_option linter.unusedVariables false
set_option linter.unusedSimpArgs false
set_option maxRecDepth 100000
namespace Go.Proofs.YtilcmkiihefkkabGreatDoor.Mn
open Go.RowKit
/-- the numbers of a text -/
theorem nums_get (s : ByteArray) (j : Nat) (h : j < s.size) : (nums s.data.toList).getD j 0 = (numb s[j]).toNat := by
  rw [← nums_getD _ _ (by simpa using h), List.getD_eq_getElem?_getD, List.getElem?_eq_getElem (by simpa using h), Array.getElem_toList]
  rfl
end Go.Proofs.YtilcmkiihefkkabGreatDoor.Mn
end
section
set_option linter.unusedVariables false
set_option linter.unusedSimpArgs false
namespace Go.Proofs.YtilcmkiihefkkabGreatDoor.Mn
open Go.RowKit
theorem xs_inj (k a b : Nat) (ha : a < 2 ^ (2 * k)) (hb : b < 2 ^ (2 * k)) (h : a ^^^ (a / 2 ^ k) = b ^^^ (b / 2 ^ k)) : a = b := by
  have hs : ∀ x, x < 2 ^ (2 * k) → (x ^^^ (x / 2 ^ k)) / 2 ^ k = x / 2 ^ k := by
    intro x hx
    apply Nat.eq_of_testBit_eq
    intro i
    simp only [Nat.testBit_div_two_pow, Nat.testBit_xor]
    have : x.testBit (k + (k + i)) = false := by
      apply Nat.testBit_lt_two_pow
      exact Nat.lt_of_lt_of_le hx (Nat.pow_le_pow_right (by omega) (by omega))
    rw [show i + k + k = k + (k + i) by omega, this]
    simp
  have e : a / 2 ^ k = b / 2 ^ k := by rw [← hs a ha, ← hs b hb, h]
  rw [e] at h
  have := congrArg (· ^^^ (b / 2 ^ k)) h
  simpa [Nat.xor_assoc] using this
theorem hash_inj (k c d : Nat) (h1 : 1 ≤ k) (h2 : k ≤ 12) (hc : c < 4 ^ k) (hd : d < 4 ^ k) (h : hashN k c = hashN k d) : c = d := by
  have h4 : (4 : Nat) ^ k = 2 ^ (2 * k) := by rw [Nat.pow_mul]
  have hp : 0 < (4 : Nat) ^ k := Nat.pow_pos (by omega)
  have e := xs_inj k _ _ (by rw [← h4]; exact Nat.mod_lt _ hp) (by rw [← h4]; exact Nat.mod_lt _ hp) h
  have hm : 2654435761 * 9121617 % 4 ^ k = 1 % 4 ^ k := by
    rcases (show k = 1 ∨ k = 2 ∨ k = 3 ∨ k = 4 ∨ k = 5 ∨ k = 6 ∨ k = 7 ∨ k = 8 ∨ k = 9 ∨ k = 10 ∨ k = 11 ∨ k = 12 by omega) with rfl | rfl | rfl | rfl | rfl | rfl | rfl | rfl | rfl | rfl | rfl | rfl <;> decide
  have key : ∀ x, x < 4 ^ k → (x * 2654435761 % 4 ^ k) * 9121617 % 4 ^ k = x := by
    intro x hx
    rw [Nat.mod_mul_mod, Nat.mul_assoc, Nat.mul_mod, hm, ← Nat.mul_mod, Nat.mul_one, Nat.mod_eq_of_lt hx]
  rw [← key c hc, ← key d hd, e]
theorem codeL_inj : ∀ (a b : List Nat), a.length = b.length → (∀ m ∈ a, m < 4) → (∀ m ∈ b, m < 4) → codeL a = codeL b → a = b
  | [], [], _, _, _, _ => rfl
  | [], _ :: _, h, _, _, _ => by simp at h
  | _ :: _, [], h, _, _, _ => by simp at h
  | m :: a, n :: b, h, ha, hb, e => by
    have hl : a.length = b.length := by simpa using h
    have h1 := codeL_lt a (fun x hx => ha x (List.mem_cons_of_mem _ hx))
    have h2 := codeL_lt b (fun x hx => hb x (List.mem_cons_of_mem _ hx))
    rw [codeL_cons, codeL_cons, hl] at e
    rw [hl] at h1
    have hp : 0 < 4 ^ b.length := Nat.pow_pos (by omega)
    have e1 : m = n := by
      have := congrArg (· / 4 ^ b.length) e
      rw [Nat.mul_comm m, Nat.mul_comm n, Nat.mul_add_div hp, Nat.mul_add_div hp, Nat.div_eq_of_lt h1, Nat.div_eq_of_lt h2] at this
      simpa using this
    subst e1
    have e2 : codeL a = codeL b := by omega
    rw [codeL_inj a b hl (fun x hx => ha x (List.mem_cons_of_mem _ hx)) (fun x hx => hb x (List.mem_cons_of_mem _ hx)) e2]
/-- read from the other side -/
def rcL (a : List Nat) : List Nat := (a.map (3 - ·)).reverse
theorem rcL_length (a : List Nat) : (rcL a).length = a.length := by simp [rcL]
theorem rcL_lt (a : List Nat) : ∀ m ∈ rcL a, m < 4 := by
  intro m hm
  simp only [rcL, List.mem_reverse, List.mem_map] at hm
  obtain ⟨x, _, rfl⟩ := hm
  omega
theorem rcL_rcL (a : List Nat) (h : ∀ m ∈ a, m < 4) : rcL (rcL a) = a := by
  unfold rcL
  rw [List.map_reverse, List.reverse_reverse, List.map_map]
  conv => rhs; rw [← List.map_id a]
  apply List.map_congr_left
  intro x hx
  have := h x hx
  simp only [Function.comp, id]
  omega
theorem isW_seg {a : List Nat} {k p : Nat} (h : isW a k p = true) : p + k ≤ a.length ∧ (∀ m ∈ seg a p k, m < 4) ∧ (seg a p k).length = k := by
  unfold isW at h
  simp only [Bool.and_eq_true, decide_eq_true_eq, List.all_eq_true] at h
  exact ⟨h.1, h.2, seg_length a p k h.1⟩
theorem candW_cases {a : List Nat} {k p : Nat} {x : W3} (h : candW a k p = some x) :
    x.p = p ∧ ((x.b = false ∧ x.h = (hashN k (codeL (seg a p k)) : Nat)) ∨ (x.b = true ∧ x.h = (hashN k (codeL (rcL (seg a p k))) : Nat))) := by
  have hw := candW_isW h
  unfold candW at h
  rw [if_pos hw] at h
  unfold candOf at h
  split at h
  · cases h
  · rename_i hne
    simp only [Option.some.injEq] at h
    subst h
    refine ⟨rfl, ?_⟩
    unfold wordOf
    have ht : tcodeL (seg a p k) = codeL (rcL (seg a p k)) := rfl
    rw [ht] at hne ⊢
    by_cases hlt : codeL (rcL (seg a p k)) < codeL (seg a p k)
    · right
      refine ⟨by simp [hlt], ?_⟩
      show ((hashN k (min _ _) : Nat) : Int) = _
      rw [Nat.min_eq_right (by omega)]
    · left
      refine ⟨by simp [hlt], ?_⟩
      show ((hashN k (min _ _) : Nat) : Int) = _
      rw [Nat.min_eq_left (by omega)]
/-- two words with one hash: the same bases, or those read from the other side -/
theorem cand_match {a b : List Nat} {k p q : Nat} {x y : W3} (h1 : 1 ≤ k) (h2 : k ≤ 12) (hx : candW a k p = some x) (hy : candW b k q = some y) (h : x.h = y.h) :
    (x.b = y.b → seg b q k = seg a p k) ∧ (x.b ≠ y.b → seg b q k = rcL (seg a p k)) := by
  obtain ⟨_, a1, a2⟩ := isW_seg (candW_isW hx)
  obtain ⟨_, b1, b2⟩ := isW_seg (candW_isW hy)
  have cx := (candW_cases hx).2
  have cy := (candW_cases hy).2
  have inj : ∀ u v : List Nat, u.length = k → v.length = k → (∀ m ∈ u, m < 4) → (∀ m ∈ v, m < 4) → ((hashN k (codeL u) : Nat) : Int) = (hashN k (codeL v) : Nat) → u = v := by
    intro u v hu hv hu4 hv4 e
    refine codeL_inj u v (by omega) hu4 hv4 (hash_inj k _ _ h1 h2 ?_ ?_ (by exact_mod_cast e))
    · have := codeL_lt u hu4; rwa [hu] at this
    · have := codeL_lt v hv4; rwa [hv] at this
  rcases cx with ⟨ex, hx'⟩ | ⟨ex, hx'⟩ <;> rcases cy with ⟨ey, hy'⟩ | ⟨ey, hy'⟩ <;> rw [hx', hy'] at h
  · exact ⟨fun _ => (inj _ _ a2 b2 a1 b1 h).symm, fun e => absurd (ex.trans ey.symm) e⟩
  · refine ⟨fun e => (by rw [ex, ey] at e; cases e), fun _ => ?_⟩
    have := inj _ _ a2 (by rw [rcL_length]; exact b2) a1 (rcL_lt _) h
    rw [this, rcL_rcL _ b1]
  · refine ⟨fun e => (by rw [ex, ey] at e; cases e), fun _ => ?_⟩
    exact (inj _ _ (by rw [rcL_length]; exact a2) b2 (rcL_lt _) b1 h).symm
  · refine ⟨fun _ => ?_, fun e => absurd (ex.trans ey.symm) e⟩
    have := inj _ _ (by rw [rcL_length]; exact a2) (by rw [rcL_length]; exact b2) (rcL_lt _) (rcL_lt _) h
    rw [← rcL_rcL _ a1, this, rcL_rcL _ b1]
theorem comp_map (l : List Nat) (h : ∀ m ∈ l, m < 4) : l.map comp = l.map (3 - ·) := by
  apply List.map_congr_left
  intro x hx
  have := h x hx
  unfold comp
  rw [if_neg (by omega)]
/-- the bases of a word, seen from the turned text -/
theorem seg_turned (a : List Nat) (k p : Nat) (h : isW a k p = true) : seg ((a.map comp).reverse) (a.length - k - p) k = rcL (seg a p k) := by
  obtain ⟨h1, h2, h3⟩ := isW_seg h
  have hl : (a.map comp).length = a.length := by simp
  rw [seg_reverse (a.map comp) (a.length - k - p) k (by rw [hl]; omega), hl, show a.length - k - (a.length - k - p) = p by omega, seg_map, comp_map _ h2]
  rfl
end Go.Proofs.YtilcmkiihefkkabGreatDoor.Mn
end
