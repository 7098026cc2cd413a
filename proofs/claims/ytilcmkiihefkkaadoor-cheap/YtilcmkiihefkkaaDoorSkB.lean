import Derived.Test.YtilcmkiihefkkaaDoorSgE
import Derived.Test.YtilcmkiihefkkaaDoorScF
import Derived.Test.YtilcmkiihefkkaaDoorSkA
set_option linter.unusedVariables false
set_option linter.unusedSimpArgs false
set_option maxRecDepth 100000
namespace Go.Proofs.YtilcmkiihefkkaaDoor
open Go.RowKit Go.Shelf

theorem ahd_at : ∀ (k : Nat) (a b : List Nat), (∀ t, t < k → a.getD t 9 = b.getD t 9) → k < a.length → k < b.length → a.getD k 9 < b.getD k 9 → ahd a b
  | 0, x :: a, y :: b, _, _, _, h => by
    have h' : x < y := by simpa using h
    show (if x = y then ahd a b else x < y)
    rw [if_neg (by omega)]; exact h'
  | k + 1, x :: a, y :: b, he, ha, hb, h => by
    have h0 : x = y := by simpa using he 0 (by omega)
    show (if x = y then ahd a b else x < y)
    rw [if_pos h0]
    exact ahd_at k a b (fun t ht => by simpa using he (t + 1) (by omega)) (by simpa using ha) (by simpa using hb) (by simpa using h)
  | _, [], _, _, ha, _, _ => by simp at ha
  | _, _ :: _, [], _, _, hb, _ => by simp at hb

theorem rev_getD (L : List Nat) (k : Nat) (h : k < L.length) : L.reverse.getD k 9 = L.getD (L.length - (k + 1)) 9 := by
  have h2 : L.length - (k + 1) < L.length := by omega
  rw [List.getD_eq_getElem?_getD, List.getD_eq_getElem?_getD, List.getElem?_reverse h]
  congr 2
  omega

/-- while cost goes over the letters -/
structure St (read ref : ByteArray) (L : List Nat) (k i j : Nat) (c : Int) (s : Nat) : Prop where
  pos : (L.take k).foldl stF (0, 0) = (i, j)
  cost : c = cst (uR read ref) (L.take k).reverse i j
  same : s = cntF (sR read ref) (L.take k) (0, 0)

theorem take_app (L : List Nat) (k : Nat) (h : k < L.length) : L.take (k + 1) = L.take k ++ [L.getD k 9] := by
  rw [List.take_succ_eq_append_getElem h]; simp [h]

theorem head_rev (L : List Nat) (k : Nat) (h : k ≤ L.length) : (L.take k).reverse.head? = if k = 0 then none else some (L.getD (k - 1) 9) := by
  rcases k with _ | k
  · simp
  · rw [take_rev_succ L k (by omega)]; simp

theorem St.m {read ref : ByteArray} {L : List Nat} {k i j : Nat} {c : Int} {s : Nat} (h : St read ref L k i j c s) (hk : k < L.length) (hl : L.getD k 9 = 0) :
    St read ref L (k + 1) (i + 1) (j + 1) (c + uR read ref i j) (s + if sR read ref i j = true then 1 else 0) := by
  refine ⟨?_, ?_, ?_⟩
  · rw [take_app L k hk, List.foldl_append, h.pos, hl]; rfl
  · rw [take_rev_succ L k hk, hl, cst_cons, h.cost]
    simp [jn]
    omega
  · rw [take_app L k hk, cntF_app, h.pos, h.same, hl]
    simp

theorem St.gap {read ref : ByteArray} {L : List Nat} {k i j : Nat} {c : Int} {s : Nat} (h : St read ref L k i j c s) (hk : k < L.length) (l : Nat) (hl : L.getD k 9 = l) (h1 : l = 1 ∨ l = 2) :
    St read ref L (k + 1) (if l = 2 then i else i + 1) (if l = 1 then j else j + 1) (c + 2 + (if k ≠ 0 ∧ L.getD (k - 1) 9 = l then 0 else 4)) s := by
  refine ⟨?_, ?_, ?_⟩
  · rw [take_app L k hk, List.foldl_append, h.pos, hl]; rfl
  · rw [take_rev_succ L k hk, hl, cst_cons, h.cost]
    have e : jn l (L.take k).reverse = if k ≠ 0 ∧ L.getD (k - 1) 9 = l then 0 else 4 := by
      unfold jn
      rw [head_rev L k (by omega)]
      by_cases hk0 : k = 0
      · subst hk0; simp; omega
      · simp [hk0]
        have : l ≠ 0 := by omega
        simp [this]
    rw [e, if_neg (show ¬ l = 0 by omega)]
    rcases h1 with rfl | rfl <;> simp <;> omega
  · rw [take_app L k hk, cntF_app, h.pos, h.same, hl]
    have : ¬ l = 0 := by omega
    simp [this]

theorem cst_bd (u : Nat → Nat → Int) (hu : ∀ i j, 0 ≤ u i j ∧ u i j ≤ 4) : ∀ (t : List Nat) (i j : Nat), 0 ≤ cst u t i j ∧ cst u t i j ≤ 6 * t.length
  | [], _, _ => by simp [cst]
  | l :: t, i, j => by
    have ih := cst_bd u hu t (if l = 2 then i else i - 1) (if l = 1 then j else j - 1)
    have h1 := hu (i - 1) (j - 1)
    have h2 : 0 ≤ jn l t ∧ jn l t ≤ 4 := by unfold jn; split <;> omega
    show 0 ≤ (if l = 0 then u (i - 1) (j - 1) else 2 + jn l t) + _ ∧ (if l = 0 then u (i - 1) (j - 1) else 2 + jn l t) + _ ≤ _
    rw [List.length_cons]
    split <;> omega

theorem cntF_bd (s : Nat → Nat → Bool) : ∀ (L : List Nat) (p : Nat × Nat), cntF s L p ≤ L.length
  | [], _ => Nat.le_refl _
  | l :: L, p => by
    have ih := cntF_bd s L (stF p l)
    show (if l = 0 ∧ s p.1 p.2 = true then 1 else 0) + _ ≤ _
    rw [List.length_cons]
    split <;> omega

theorem St.bd {read ref : ByteArray} {L : List Nat} {k i j : Nat} {c : Int} {s : Nat} (h : St read ref L k i j c s) (hk : k ≤ L.length) : 0 ≤ c ∧ c ≤ 6 * k ∧ s ≤ k := by
  have h1 := cst_bd (uR read ref) (uR_bd read ref) (L.take k).reverse i j
  have h2 := cntF_bd (sR read ref) (L.take k) (0, 0)
  have e1 := h.cost
  have e2 := h.same
  simp only [List.length_reverse, List.length_take] at h1 h2
  omega

/-- a letter leads on within the two texts -/
theorem St.inn {read ref : ByteArray} {L : List Nat} {k i j : Nat} {c : Int} {s : Nat} (h : St read ref L k i j c s) (hk : k < L.length) (he : L.foldl stF (0, 0) = (read.size, ref.size)) :
    (stF (i, j) (L.getD k 9)).1 ≤ read.size ∧ (stF (i, j) (L.getD k 9)).2 ≤ ref.size := by
  have e : L = L.take k ++ (L.getD k 9 :: L.drop (k + 1)) := by
    have h1 : L.getD k 9 = L[k] := by simp [hk]
    rw [h1]
    have := List.take_append_drop k L
    rw [List.drop_eq_getElem_cons hk] at this
    exact this.symm
  rw [e, List.foldl_append, List.foldl_cons, h.pos] at he
  have g := stF_ge (L.drop (k + 1)) (stF (i, j) (L.getD k 9))
  rw [he] at g
  exact g

theorem St.end_ {read ref : ByteArray} {L : List Nat} {i j : Nat} {c : Int} {s : Nat} (h : St read ref L L.length i j c s) (he : L.foldl stF (0, 0) = (read.size, ref.size)) :
    i = read.size ∧ j = ref.size ∧ c = cst (uR read ref) L.reverse read.size ref.size ∧ s = cntF (sR read ref) L (0, 0) := by
  have h1 := h.pos
  have h2 := h.cost
  have h3 := h.same
  rw [List.take_length] at h1 h2 h3
  rw [he] at h1
  simp only [Prod.mk.injEq] at h1
  obtain ⟨rfl, rfl⟩ := h1
  exact ⟨rfl, rfl, h2, h3⟩

def AhP (A B : List Nat) (w : World) (e : Ending) (w' : World) : Prop := ∃ r : Bool, e = .returned (.bool r) ∧ (r = true → ahd A.reverse B.reverse) ∧ w' = w

set_option maxHeartbeats 4000000 in
theorem lahead_any (A B : List Nat) (hA : ∀ x ∈ A, x ≤ 2) (hB : ∀ x ∈ B, x ≤ 2) (hAl : A.length ≤ 1000) (hBl : B.length ≤ 1000) (w : World) :
    Calls Tryd.prog 11 #[.string (lets A), .string (lets B)] w (AhP A B w) := by
  obtain ⟨a, ha⟩ : ∃ a, a = lets A := ⟨_, rfl⟩
  obtain ⟨b, hb⟩ : ∃ b, b = lets B := ⟨_, rfl⟩
  have has : a.size = A.length := by rw [ha, lets_size]
  have hbs : b.size = B.length := by rw [hb, lets_size]
  have HGA : Hid (∀ t (h : t < a.size), a[t] = ltr (A.getD t 9)) := by subst ha; exact lets_get A
  have HGB : Hid (∀ t (h : t < b.size), b[t] = ltr (B.getD t 9)) := by subst hb; exact lets_get B
  have HSA : Hid (a.size = A.length) := has
  have HSB : Hid (b.size = B.length) := hbs
  have ha1 : a.size ≤ 1000 := by omega
  have hb1 : b.size ≤ 1000 := by omega
  have HA : Hid (∀ x ∈ A, x ≤ 2) := hA
  have HBB : Hid (∀ x ∈ B, x ≤ 2) := hB
  rw [← ha, ← hb]
  clear ha hb has hbs hA hB hAl hBl
  go_enter Tryd.func11, Tryd.ntmps11
  go_wp2_with fail
  go_loop [5] (fun kv => ∃ k : Nat, k ≤ a.size ∧ k ≤ b.size ∧ kv = .int .i64 ((k : Int) + 1) ∧ ∀ t, t < k → A.reverse.getD t 9 = B.reverse.getD t 9) (fun kv => a.size + 1 - (intOf kv).toNat)
  case atStart => exact ⟨0, Nat.zero_le _, Nat.zero_le _, rfl, fun t h => by omega⟩
  case round =>
    obtain ⟨k, hka, hkb, rfl, hsame⟩ := hrel
    have HS : Hid (∀ t, t < k → A.reverse.getD t 9 = B.reverse.getD t 9) := hsame
    clear hsame
    by_cases h1 : k < a.size
    · have h1I : (k : Int) + 1 ≤ a.size := by omega
      by_cases h2 : k < b.size
      · have h2I : (k : Int) + 1 ≤ b.size := by omega
        obtain ⟨x, hx⟩ : ∃ x, x = A.reverse.getD k 9 := ⟨_, rfl⟩
        obtain ⟨y, hy⟩ : ∃ y, y = B.reverse.getD k 9 := ⟨_, rfl⟩
        obtain ⟨ia, hia⟩ : ∃ ia, ia = a.size - (k + 1) := ⟨_, rfl⟩
        obtain ⟨ib, hib⟩ : ∃ ib, ib = b.size - (k + 1) := ⟨_, rfl⟩
        have hia2 : ia < a.size := by omega
        have hib2 : ib < b.size := by omega
        have gx : a[ia] = ltr x := by
          rw [HGA.out ia hia2, hx, rev_getD A k (by rw [← HSA.out]; exact h1), hia, HSA.out]
        have gy : b[ib] = ltr y := by
          rw [HGB.out ib hib2, hy, rev_getD B k (by rw [← HSB.out]; exact h2), hib, HSB.out]
        have hx2 : x ≤ 2 := by
          rw [hx, rev_getD A k (by rw [← HSA.out]; exact h1)]
          exact HA.out _ (by have : A.length - (k + 1) < A.length := by have := HSA.out; omega
                             simp [this])
        have hy2 : y ≤ 2 := by
          rw [hy, rev_getD B k (by rw [← HSB.out]; exact h2)]
          exact HBB.out _ (by have : B.length - (k + 1) < B.length := by have := HSB.out; omega
                              simp [this])
        have hwa : IntKind.i64.wrap ((a.size : Int) - ((k : Int) + 1)) = (ia : Int) := by rw [IntKind.wrap_i64]; omega
        have hwb : IntKind.i64.wrap ((b.size : Int) - ((k : Int) + 1)) = (ib : Int) := by rw [IntKind.wrap_i64]; omega
        have hwk : IntKind.i64.wrap ((k : Int) + 1 + 1) = (k : Int) + 1 + 1 := by rw [IntKind.wrap_i64]; omega
        have HX : Hid (x = A.reverse.getD k 9) := hx
        have HY : Hid (y = B.reverse.getD k 9) := hy
        clear hx hy hia hib
        rcases (show x = 0 ∨ x = 1 ∨ x = 2 by omega) with rfl | rfl | rfl <;> rcases (show y = 0 ∨ y = 1 ∨ y = 2 by omega) with rfl | rfl | rfl
        all_goals (simp only [show ltr 0 = (77 : UInt8) from rfl, show ltr 1 = (73 : UInt8) from rfl, show ltr 2 = (68 : UInt8) from rfl] at gx gy)
        all_goals (have gx2 := congrArg (fun c : UInt8 => (c.toNat : Int)) gx; have gy2 := congrArg (fun c : UInt8 => (c.toNat : Int)) gy; simp only [show ((77 : UInt8).toNat : Int) = 77 from rfl, show ((73 : UInt8).toNat : Int) = 73 from rfl, show ((68 : UInt8).toNat : Int) = 68 from rfl] at gx2 gy2; clear gx gy)
        all_goals go_wp2_with fail
        all_goals first
          | (go_round
             case rel =>
               refine ⟨k + 1, h1, h2, by go_num, fun t ht => ?_⟩
               by_cases htk : t < k
               · exact HS.out t htk
               · obtain rfl : t = k := by omega
                 rw [← HX.out, ← HY.out]
             case measure => simp [intOf]; omega)
          | (go_ret
             refine ⟨_, rfl, fun h => ?_, rfl⟩
             first
               | (exact ahd_at k _ _ HS.out (by rw [List.length_reverse, ← HSA.out]; exact h1) (by rw [List.length_reverse, ← HSB.out]; exact h2) (by rw [← HX.out, ← HY.out]; omega))
               | (simp at h))
      · have h2I : ¬ (k : Int) + 1 ≤ b.size := by omega
        go_wp2_with fail
        go_ret
        exact ⟨false, rfl, fun h => (by cases h), rfl⟩
    · have h1I : ¬ (k : Int) + 1 ≤ a.size := by omega
      go_wp2_with fail
      go_ret
      exact ⟨false, rfl, fun h => (by cases h), rfl⟩
end Go.Proofs.YtilcmkiihefkkaaDoor
