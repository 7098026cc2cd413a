import Derived.Test.YtilcmkiihefkkaaDoorSeG
set_option linter.unusedVariables false
set_option linter.unusedSimpArgs false
set_option maxRecDepth 100000
namespace Go.Proofs.YtilcmkiihefkkaaDoor
open Go.RowKit Go.Shelf

set_option maxHeartbeats 1000000 in
theorem less_any (a b : Int) (w : World) : Calls Tryd.prog 36 #[.int .i64 a, .int .i64 b] w fun e w' => e = .returned (.int .i64 (min a b)) ∧ w' = w := by
  go_enter Tryd.func36, Tryd.ntmps36
  by_cases h : a < b
  · have e : min a b = a := by omega
    rw [e]
    go_wp2
    go_ret
    exact ⟨rfl, rfl⟩
  · have e : min a b = b := by omega
    rw [e]
    go_wp2
    go_ret
    exact ⟨rfl, rfl⟩

/-- are two bytes the same, and not N? -/
def sB (a b : UInt8) : Bool := decide (a = b ∧ a ≠ 78)

set_option maxHeartbeats 1000000 in
theorem rsame_any (a b : UInt8) (w : World) : Calls Tryd.prog 30 #[.int .u8 a.toNat, .int .u8 b.toNat] w fun e w' => e = .returned (.bool (sB a b)) ∧ w' = w := by
  go_enter Tryd.func30, Tryd.ntmps30
  by_cases h1 : a = b
  · subst h1
    by_cases h2 : a = 78
    · have e : sB a a = false := decide_eq_false (fun h => h.2 h2)
      rw [e]
      subst h2
      go_wp2
      go_ret
      exact ⟨rfl, rfl⟩
    · have e : sB a a = true := decide_eq_true ⟨rfl, h2⟩
      rw [e]
      have h3 : ¬ ((a.toNat : Int) = 78) := fun h => h2 (UInt8.toNat_inj.1 (by simpa using (show a.toNat = 78 by omega)))
      go_wp2
      go_ret
      refine ⟨?_, rfl⟩
      simp [h3]
  · have e : sB a b = false := decide_eq_false (fun h => h1 h.1)
    rw [e]
    have h3 : ¬ ((a.toNat : Int) = (b.toNat : Int)) := fun h => h1 (UInt8.toNat_inj.1 (by omega))
    go_wp2
    go_ret
    refine ⟨?_, rfl⟩
    simp [h3]

/-- what a pair of bytes costs -/
def uB (a b : UInt8) : Int := if sB a b then 0 else 4

set_option maxHeartbeats 1000000 in
theorem unlike_any (a b : UInt8) (w : World) : Calls Tryd.prog 37 #[.int .u8 a.toNat, .int .u8 b.toNat] w fun e w' => e = .returned (.int .i64 (uB a b)) ∧ w' = w := by
  have c := fun W => rsame_any a b W
  go_enter Tryd.func37, Tryd.ntmps37
  cases h : sB a b with
  | true =>
    have e : uB a b = 0 := by unfold uB; rw [h]; rfl
    rw [e]
    rw [h] at c
    clear h e
    go_wp2_with (go_at_call 30; refine (c _).mono ?_; rintro e w' ⟨rfl, rfl⟩)
    go_ret
    exact ⟨rfl, rfl⟩
  | false =>
    have e : uB a b = 4 := by unfold uB; rw [h]; rfl
    rw [e]
    rw [h] at c
    clear h e
    go_wp2_with (go_at_call 30; refine (c _).mono ?_; rintro e w' ⟨rfl, rfl⟩)
    go_ret
    exact ⟨rfl, rfl⟩

theorem Tryd.info26 : (Tryd.prog.info? 26).map (fun i => (i.zero, i.size, i.bytes)) = some (some (.slice none 0 0), 1, 24) := by kernel_rfl

/-- a row of whole numbers -/
def RP (w : World) (b n j : Nat) (f : Nat → Int) : Prop :=
  ∃ cur : Array Value, w.heap[b]? = some (.cells cur 3 (0, 0)) ∧ cur.size = n ∧ ∀ k, k < j → cur[k]? = some (.int .i64 (f k))

theorem RP.any {w : World} {b n j : Nat} {f : Nat → Int} (h : RP w b n j f) (k : Nat) (hk : k < n) : (∃ y, w.cell? ⟨b, k, none⟩ = some y) ∧ w.frozen? ⟨b, k, none⟩ = false := by
  obtain ⟨cur, h1, h2, _⟩ := h
  exact ⟨⟨_, cell_at h1 (Array.getElem?_eq_getElem (by omega))⟩, frozen_of_row _ _ _ _ _ h1⟩

theorem RP.cell {w : World} {b n j : Nat} {f : Nat → Int} (h : RP w b n j f) (k : Nat) (hk : k < j) : w.cell? ⟨b, k, none⟩ = some (.int .i64 (f k)) := by
  obtain ⟨cur, h1, h2, h3⟩ := h
  exact cell_at h1 (h3 k hk)

theorem RP.other {w w' : World} {b n j : Nat} {f : Nat → Int} (h : RP w b n j f) (he : w'.heap[b]? = w.heap[b]?) : RP w' b n j f := by
  obtain ⟨cur, h1, h2⟩ := h
  exact ⟨cur, he.trans h1, h2⟩

theorem RP.lt {w : World} {b n j : Nat} {f : Nat → Int} (h : RP w b n j f) : b < w.heap.size := by
  obtain ⟨cur, h1, _⟩ := h
  exact lt_of_block h1

/-- the same, with its next number -/
def RX (w : World) (b n j : Nat) (f : Nat → Int) (x : Int) : Prop := RP w b n j f ∧ w.cell? ⟨b, j, none⟩ = some (.int .i64 x)

theorem RX.other {w w' : World} {b n j : Nat} {f : Nat → Int} {x : Int} (h : RX w b n j f x) (he : w'.heap[b]? = w.heap[b]?) : RX w' b n j f x :=
  ⟨h.1.other he, (World.cell?_of_block he).trans h.2⟩

theorem RX.next {w : World} {b n j : Nat} {f : Nat → Int} {x : Int} (h : RX w b n j f x) (hx : x = f j) : RP w b n (j + 1) f := by
  obtain ⟨⟨cur, h1, h2, h3⟩, h4⟩ := h
  refine ⟨cur, h1, h2, fun k hk => ?_⟩
  by_cases he : k = j
  · subst he
    rw [cell_of_row w b k cur 3 (0, 0) h1] at h4
    rw [h4, hx]
  · exact h3 k (by omega)

theorem RP.set {w : World} {b n j : Nat} {f : Nat → Int} (h : RP w b n j f) (hj : j < n) (x : Int) : RX (w.setCell ⟨b, j, none⟩ (.int .i64 x)) b n j f x := by
  obtain ⟨cur, h1, h2, h3⟩ := h
  have u := Upd.of_setCell (i := j) (.int .i64 x) h1
  refine ⟨⟨_, u.here, by simpa using h2, fun k hk => ?_⟩, cell_at u.here (Array.getElem?_setIfInBounds_self_of_lt (by omega))⟩
  rw [Array.getElem?_setIfInBounds_ne (by omega)]
  exact h3 k hk

/-- three blocks may have turned, nothing else -/
structure But3 (w w' : World) (p q r : Nat) : Prop where
  os : w'.os = w.os
  tape : w'.tape = w.tape
  output : w'.output = w.output
  size : w'.heap.size = w.heap.size
  other : ∀ b, b ≠ p → b ≠ q → b ≠ r → w'.heap[b]? = w.heap[b]?

theorem But3.refl (w : World) (p q r : Nat) : But3 w w p q r := ⟨rfl, rfl, rfl, rfl, fun _ _ _ _ => rfl⟩

theorem But3.drewN {w w' : World} {p q r : Nat} (h : But3 w w' p q r) (n : Nat) : But3 w (w'.drewN n) p q r := ⟨h.os, h.tape, h.output, h.size, h.other⟩

theorem But3.set {w w' : World} {p q r : Nat} (h : But3 w w' p q r) (b i : Nat) (v : Value) (hb : b = p ∨ b = q ∨ b = r) : But3 w (w'.setCell ⟨b, i, none⟩ v) p q r :=
  ⟨h.os, h.tape, h.output, by simpa using h.size, fun k h1 h2 h3 => (heap_setCell_other w' _ k v (by intro he; have he : k = b := he; subst he; rcases hb with hb | hb | hb <;> contradiction)).trans (h.other k h1 h2 h3)⟩

theorem But3.below {w w' : World} {p q r B : Nat} (h : But3 w w' p q r) (h1 : B ≤ p) (h2 : B ≤ q) (h3 : B ≤ r) : Below B w w' :=
  ⟨h.os, h.tape, h.output, by rw [h.size]; exact Nat.le_refl _, fun k hk => h.other k (by omega) (by omega) (by omega)⟩
end Go.Proofs.YtilcmkiihefkkaaDoor
