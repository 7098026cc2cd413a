import Derived.Test.YtilcmkiihefkkaaDoorSdD
set_option linter.unusedVariables false
set_option linter.unusedSimpArgs false
set_option maxRecDepth 100000
namespace Go.Proofs.YtilcmkiihefkkaaDoor
open Go.RowKit Go.Shelf Go.Lib

theorem AppFr.below {w w' : World} {v : Value} {g' base : Nat} (h : AppFr w w' v g') (hv : ∀ g, v.ownBlock = some g → base ≤ g) (hb : base ≤ w.heap.size) : Below base w w' :=
  ⟨h.os, h.tape, h.output, h.size, fun j hj => h.other j (by omega) (fun he => by have := hv j he; omega)⟩

/-- another kind of row is left alone by an append -/
theorem OwnR.app {w w' : World} {base base2 : Nat} {e e2 : TypeId} {size size2 : Nat} {v v2 : Value} {n n2 : Nat} {xs xs2 : List Value} {g' : Nat} (h : OwnR w base e size v n xs) (h2 : OwnR w base2 e2 size2 v2 n2 xs2) (hne : e ≠ e2) (hf : AppFr w w' v2 g') : OwnR w' base e size v n xs := by
  have h' := h
  obtain ⟨h0, h⟩ := h'
  rcases h with ⟨rfl, rfl⟩ | ⟨g, o, cap, cur, rfl, a1, a2, a3⟩
  · exact ⟨h0, Or.inl ⟨rfl, rfl⟩⟩
  · exact ⟨h0, Or.inr ⟨g, o, cap, cur, rfl, a1, (hf.other g (lt_of_block a2) (h2.tag hne a2)).trans a2, a3⟩⟩

theorem OwnR.setOther {w : World} {base : Nat} {e : TypeId} {size : Nat} {v : Value} {n : Nat} {xs : List Value} (h : OwnR w base e size v n xs) {B i : Nat} (u : Value) (hne : v.ownBlock ≠ some B) : OwnR (w.setCell ⟨B, i, none⟩ u) base e size v n xs :=
  h.other fun g hg _ => heap_setCell_other w _ g u (fun he => hne (by rw [hg, he]))

theorem OwnR.alloc {w : World} {base : Nat} {e : TypeId} {size : Nat} {v : Value} {n : Nat} {xs : List Value} (h : OwnR w base e size v n xs) (ob : Obj) : OwnR (w.alloc ob) base e size v n xs := h.other fun g _ hlt => Below.heap_alloc _ _ _ hlt

theorem OwnR.drewN {w : World} {base : Nat} {e : TypeId} {size : Nat} {v : Value} {n : Nat} {xs : List Value} (h : OwnR w base e size v n xs) (q : Nat) : OwnR (w.drewN q) base e size v n xs := h.other fun g _ hlt => rfl

theorem OwnR.below {w w' : World} {base B : Nat} {e : TypeId} {size : Nat} {v : Value} {n : Nat} {xs : List Value} (h : OwnR w base e size v n xs) (hb : Below B w w') (hB : w.heap.size ≤ B) : OwnR w' base e size v n xs := h.other fun g _ hlt => hb.block g (by omega)

theorem OwnR.cell {w : World} {base : Nat} {e : TypeId} {size : Nat} {g o n cap : Nat} {xs : List Value} (h : OwnR w base e size (.slice (some ⟨g, o, none⟩) n cap) n xs) {j : Nat} {u : Value} (hj : xs[j]? = some u) : w.cell? ⟨g, o + j, none⟩ = some u := by
  rcases h.2 with ⟨h1, _⟩ | ⟨g', o', cap', cur, he, h1, h2, h3, h4, h5, h6⟩
  · simp at h1
  · simp only [Value.slice.injEq, Option.some.injEq, Addr.mk.injEq, and_true, true_and] at he
    obtain ⟨⟨rfl, rfl⟩, rfl⟩ := he
    exact cell_at h2 (h6 j u hj)

theorem OwnR.frozen {w : World} {base : Nat} {e : TypeId} {size : Nat} {g o n cap : Nat} {xs : List Value} (h : OwnR w base e size (.slice (some ⟨g, o, none⟩) n cap) n xs) (j : Nat) : w.frozen? ⟨g, j, none⟩ = false := by
  rcases h.2 with ⟨h1, _⟩ | ⟨g', o', cap', cur, he, h1, h2, h3, h4, h5, h6⟩
  · simp at h1
  · simp only [Value.slice.injEq, Option.some.injEq, Addr.mk.injEq, and_true, true_and] at he
    obtain ⟨⟨rfl, rfl⟩, rfl⟩ := he
    exact frozen_of_row _ _ _ _ _ h2

theorem OwnR.set {w : World} {base : Nat} {e : TypeId} {size : Nat} {g o n cap : Nat} {xs : List Value} (h : OwnR w base e size (.slice (some ⟨g, o, none⟩) n cap) n xs) (j : Nat) (u : Value) (hj : j < xs.length) : OwnR (w.setCell ⟨g, o + j, none⟩ u) base e size (.slice (some ⟨g, o, none⟩) n cap) n (xs.set j u) := by
  obtain ⟨h0, h⟩ := h
  rcases h with ⟨h1, _⟩ | ⟨g', o', cap', cur, he, h1, h2, h3, h4, h5, h6⟩
  · simp at h1
  · simp only [Value.slice.injEq, Option.some.injEq, Addr.mk.injEq, and_true, true_and] at he
    obtain ⟨⟨rfl, rfl⟩, rfl⟩ := he
    refine ⟨by simpa using h0, Or.inr ⟨g, o, cap, _, rfl, h1, heap_setCell_same w g (o + j) cur e u h2, h3, h4, by simpa using h5, fun i v hi => ?_⟩⟩
    have hle : o + xs.length ≤ cur.size := by
      have : n * size ≤ cap * size := Nat.mul_le_mul_right _ h3
      omega
    by_cases hij : i = j
    · subst hij
      rw [List.getElem?_set_self hj] at hi
      rw [Array.getElem?_setIfInBounds_self_of_lt (by omega)]
      exact hi
    · rw [List.getElem?_set_ne (Ne.symm hij)] at hi
      rw [Array.getElem?_setIfInBounds_ne (by omega)]
      exact h6 i v hi

theorem OwnR.addr {w : World} {base : Nat} {e : TypeId} {size : Nat} {v : Value} {n : Nat} {xs : List Value} (h : OwnR w base e size v n xs) (hn : 0 < n) : ∃ g o cap, v = .slice (some ⟨g, o, none⟩) n cap ∧ base ≤ g ∧ g < w.heap.size := by
  rcases h.2 with ⟨_, h⟩ | ⟨g', o', cap', cur, he, h1, h2, _⟩
  · omega
  · exact ⟨g', o', cap', he, h1, lt_of_block h2⟩

/-- what stands in a new block behind an append's back -/
theorem box_at (W : World) (vs : List Value) (t : TypeId) (s : Nat) (hs : s = W.heap.size) : ∀ j u, vs[j]? = some u → (W.alloc (.cells vs.toArray t)).cell? ((⟨s, 0, none⟩ : Addr).add j) = some u := by
  intro j u hj
  subst hs
  rw [Addr.add_lit]
  refine cell_at (heap_alloc_new W _) ?_
  simpa using hj

def celV (c : C3) : List Value := [.int .i64 c.m, .int .i64 c.i, .int .i64 c.d]

def celsL (f : Nat → C3) (n : Nat) : List Value := (List.range n).flatMap fun k => celV (f k)

theorem celsL_succ (f : Nat → C3) (n : Nat) : celsL f (n + 1) = celsL f n ++ celV (f n) := by
  simp [celsL, List.range_succ, List.flatMap_append]

theorem celsL_length (f : Nat → C3) : ∀ n, (celsL f n).length = n * 3
  | 0 => rfl
  | n + 1 => by rw [celsL_succ, List.length_append, celsL_length f n]; simp [celV]; omega

theorem celsL_get (f : Nat → C3) : ∀ (n k : Nat), k < n → (celsL f n)[k * 3]? = some (.int .i64 (f k).m) ∧ (celsL f n)[k * 3 + 1]? = some (.int .i64 (f k).i) ∧ (celsL f n)[k * 3 + 2]? = some (.int .i64 (f k).d)
  | 0, k, h => absurd h (by omega)
  | n + 1, k, h => by
    rw [celsL_succ]
    by_cases he : k = n
    · subst he
      have hl := celsL_length f k
      refine ⟨?_, ?_, ?_⟩
      · rw [List.getElem?_append_right (by omega), hl, show k * 3 - k * 3 = 0 by omega]; rfl
      · rw [List.getElem?_append_right (by omega), hl, show k * 3 + 1 - k * 3 = 1 by omega]; rfl
      · rw [List.getElem?_append_right (by omega), hl, show k * 3 + 2 - k * 3 = 2 by omega]; rfl
    · have hl := celsL_length f n
      obtain ⟨h1, h2, h3⟩ := celsL_get f n k (by omega)
      refine ⟨?_, ?_, ?_⟩
      · rw [List.getElem?_append_left (by omega)]; exact h1
      · rw [List.getElem?_append_left (by omega)]; exact h2
      · rw [List.getElem?_append_left (by omega)]; exact h3

theorem OwnR.cel {w : World} {base : Nat} {e : TypeId} {g o n cap : Nat} {f : Nat → C3} (h : OwnR w base e 3 (.slice (some ⟨g, o, none⟩) n cap) n (celsL f n)) (k : Nat) (hk : k < n) :
    w.cell? ⟨g, o + k * 3, none⟩ = some (.int .i64 (f k).m) ∧ w.cell? ⟨g, o + k * 3 + 1, none⟩ = some (.int .i64 (f k).i) ∧ w.cell? ⟨g, o + k * 3 + 2, none⟩ = some (.int .i64 (f k).d) := by
  obtain ⟨h1, h2, h3⟩ := celsL_get f n k hk
  refine ⟨h.cell h1, ?_, ?_⟩
  · rw [Nat.add_assoc]; exact h.cell h2
  · rw [Nat.add_assoc]; exact h.cell h3

def numV (l : List Nat) : List Value := l.map fun (k : Nat) => .int .i64 k

theorem cel_oneCell (x y z : Int) : ∀ u ∈ ([.int .i64 x, .int .i64 y, .int .i64 z] : List Value), u.oneCell' = true := by
  intro u hu
  simp only [List.mem_cons, List.not_mem_nil, or_false] at hu
  rcases hu with rfl | rfl | rfl <;> rfl

theorem int_oneCell (k : IntKind) (x : Int) : ∀ u ∈ ([.int k x] : List Value), u.oneCell' = true := by
  intro u hu
  simp only [List.mem_cons, List.not_mem_nil, or_false] at hu
  subst hu; rfl

theorem Tryd.info3 : (Tryd.prog.info? 3).map (fun i => (i.zero, i.size, i.bytes)) = some (some (.int .i64 0), 1, 8) := by kernel_rfl
theorem Tryd.infoCell : (Tryd.prog.info? 47).map (fun i => (i.zero, i.size, i.bytes)) = some (some (.agg #[.int .i64 0, .int .i64 0, .int .i64 0]), 3, 24) := by kernel_rfl
theorem Tryd.infoCells : (Tryd.prog.info? 45).map (fun i => (i.zero, i.size, i.bytes)) = some (some (.slice none 0 0), 1, 24) := by kernel_rfl
end Go.Proofs.YtilcmkiihefkkaaDoor
