import Derived.BigQuiet
import Derived.Deep.QuietTactic
import Derived.Deep.RegionLawGrows
import Derived.WalkKit
section
namespace Go.Proofs.YtilcmkiihefkkabGreatDoor
open Go.RowKit
/-- one block of the heap has turned, nothing else -/
structure Upd (w w' : World) (g : Nat) (o : Obj) : Prop where
  os : w'.os = w.os
  tape : w'.tape = w.tape
  output : w'.output = w.output
  size : w'.heap.size = w.heap.size
  here : w'.heap[g]? = some o
  other : ∀ j, j ≠ g → w'.heap[j]? = w.heap[j]?
theorem Upd.below {w w' : World} {g : Nat} {o : Obj} (h : Upd w w' g o) {B : Nat} (hB : B ≤ g) : Below B w w' :=
  ⟨h.os, h.tape, h.output, by rw [h.size]; exact Nat.le_refl _, fun k hk => h.other k (by omega)⟩
theorem Upd.of_setCell {w : World} {g i : Nat} {cs : Array Value} {t : TypeId} (v : Value) (hg : w.heap[g]? = some (.cells cs t (0, 0))) :
    Upd w (w.setCell ⟨g, i, none⟩ v) g (.cells (cs.setIfInBounds i v) t (0, 0)) :=
  ⟨rfl, rfl, rfl, by simp, heap_setCell_same w g i cs t v hg, fun j hj => heap_setCell_other w _ j v hj⟩
theorem Upd.drew {w w' : World} {g : Nat} {o : Obj} (h : Upd w w' g o) : Upd w w'.drew g o := ⟨h.os, h.tape, h.output, h.size, h.here, h.other⟩
theorem Upd.drewN {w w' : World} {g : Nat} {o : Obj} (h : Upd w w' g o) (n : Nat) : Upd w (w'.drewN n) g o := ⟨h.os, h.tape, h.output, h.size, h.here, h.other⟩
theorem Upd.setCell {w w' : World} {B i : Nat} {cs : Array Value} {t : TypeId} (h : Upd w w' B (.cells cs t (0, 0))) (v : Value) : Upd w (w'.setCell ⟨B, i, none⟩ v) B (.cells (cs.setIfInBounds i v) t (0, 0)) :=
  ⟨h.os, h.tape, h.output, by simpa using h.size, heap_setCell_same w' B i cs t v h.here, fun j hj => (heap_setCell_other w' _ j v hj).trans (h.other j hj)⟩
theorem cell_at {w : World} {b i : Nat} {cs : Array Value} {t : TypeId} {v : Value} (h : w.heap[b]? = some (.cells cs t (0, 0))) (hv : cs[i]? = some v) : w.cell? ⟨b, i, none⟩ = some v := by
  rw [cell_of_row w b i cs t (0, 0) h]; exact hv
/-- a slice of the call's own, from some place of its row on -/
def OwnR (w : World) (base : Nat) (e : TypeId) (size : Nat) (v : Value) (n : Nat) (xs : List Value) : Prop :=
  xs.length = n * size ∧
  ((v = .slice none 0 0 ∧ n = 0) ∨ ∃ g o cap cur, v = .slice (some ⟨g, o, none⟩) n cap ∧ base ≤ g ∧ w.heap[g]? = some (.cells cur e (0, 0)) ∧ n ≤ cap ∧ cap ≤ maxLen ∧ o + cap * size ≤ cur.size ∧
    (∀ j u, xs[j]? = some u → cur[o + j]? = some u))
theorem OwnR.nil (w : World) (base : Nat) (e : TypeId) (size : Nat) : OwnR w base e size (.slice none 0 0) 0 [] := ⟨by simp, Or.inl ⟨rfl, rfl⟩⟩
theorem OwnR.other {w w' : World} {base : Nat} {e : TypeId} {size : Nat} {v : Value} {n : Nat} {xs : List Value} (h : OwnR w base e size v n xs) (hk : ∀ g, v.ownBlock = some g → g < w.heap.size → w'.heap[g]? = w.heap[g]?) : OwnR w' base e size v n xs := by
  obtain ⟨h0, h⟩ := h
  rcases h with ⟨rfl, rfl⟩ | ⟨g, o, cap, cur, rfl, h1, h2, h3⟩
  · exact ⟨h0, Or.inl ⟨rfl, rfl⟩⟩
  · exact ⟨h0, Or.inr ⟨g, o, cap, cur, rfl, h1, (hk g rfl (lt_of_block h2)).trans h2, h3⟩⟩
theorem OwnR.tag {w : World} {base : Nat} {e : TypeId} {size : Nat} {v : Value} {n : Nat} {xs : List Value} (h : OwnR w base e size v n xs) {B : Nat} {cs : Array Value} {t : TypeId} (ht : t ≠ e) (hB : w.heap[B]? = some (.cells cs t (0, 0))) : v.ownBlock ≠ some B := by
  obtain ⟨_, h⟩ := h
  rcases h with ⟨rfl, rfl⟩ | ⟨g, o, cap, cur, rfl, h1, h2, h3⟩
  · simp [Value.ownBlock]
  · intro e
    simp only [Value.ownBlock, Option.some.injEq] at e
    subst e
    rw [h2] at hB
    simp at hB
    exact ht hB.2.symm
theorem OwnR.lt {w : World} {base : Nat} {e : TypeId} {size : Nat} {v : Value} {n : Nat} {xs : List Value} (h : OwnR w base e size v n xs) {g : Nat} (hg : v.ownBlock = some g) : base ≤ g ∧ g < w.heap.size := by
  obtain ⟨_, h⟩ := h
  rcases h with ⟨rfl, rfl⟩ | ⟨g', o, cap, cur, rfl, h1, h2, h3⟩
  · simp [Value.ownBlock] at hg
  · simp only [Value.ownBlock, Option.some.injEq] at hg
    subst hg
    exact ⟨h1, lt_of_block h2⟩
theorem OwnR.of_ownsRow {w : World} {base base' : Nat} {e : TypeId} {size : Nat} {v : Value} {n : Nat} {xs : List Value} (h : w.ownsRow base e size v n xs) (hb : base' ≤ base) : OwnR w base' e size v n xs := by
  obtain ⟨h0, h⟩ := h
  refine ⟨h0, ?_⟩
  rcases h with ⟨rfl, rfl⟩ | ⟨g, cap, cur, rfl, h1, h2, h3, h4, h5, h6⟩
  · exact Or.inl ⟨rfl, rfl⟩
  · refine Or.inr ⟨g, 0, cap, cur, rfl, by omega, h2, h3, h4, by omega, ?_⟩
    intro j u hj
    rw [← h6] at hj
    rw [List.getElem?_take] at hj
    split at hj
    · simpa using hj
    · exact absurd hj (by simp)
/-- what an append leaves alone -/
structure AppFr (w w' : World) (v : Value) (g' : Nat) : Prop where
  os : w'.os = w.os
  tape : w'.tape = w.tape
  output : w'.output = w.output
  size : w.heap.size ≤ w'.heap.size
  other : ∀ j, j < w.heap.size → v.ownBlock ≠ some j → w'.heap[j]? = w.heap[j]?
  new : v.ownBlock = some g' ∨ w.heap.size ≤ g'
  lt : g' < w'.heap.size
theorem tape_setCells (g : Nat) : ∀ (vs : List Value) (o : Nat) (w : World), (w.setCells g o vs).tape = w.tape ∧ (w.setCells g o vs).os = w.os ∧ (w.setCells g o vs).output = w.output ∧ (w.setCells g o vs).heap.size = w.heap.size
  | [], _, _ => ⟨rfl, rfl, rfl, rfl⟩
  | v :: r, o, w => by
    have := tape_setCells g r (o + 1) (w.setCell ⟨g, o, none⟩ v)
    rw [World.setCells]
    exact ⟨this.1, this.2.1, this.2.2.1, by rw [this.2.2.2]; simp⟩
theorem heap_setCells_other (g : Nat) : ∀ (vs : List Value) (o : Nat) (w : World) (j : Nat), j ≠ g → (w.setCells g o vs).heap[j]? = w.heap[j]?
  | [], _, _, _, _ => rfl
  | v :: r, o, w, j, h => by
    rw [World.setCells, heap_setCells_other g r (o + 1) _ j h]
    exact heap_setCell_other w _ j v h
theorem heap_setCells_same (g : Nat) (e : TypeId) : ∀ (vs : List Value) (o : Nat) (w : World) (cur : Array Value), w.heap[g]? = some (.cells cur e (0, 0)) →
    ∃ cur' : Array Value, (w.setCells g o vs).heap[g]? = some (.cells cur' e (0, 0)) ∧ cur'.size = cur.size ∧ (∀ j, j < o → cur'[j]? = cur[j]?) ∧ (∀ j u, vs[j]? = some u → o + j < cur.size → cur'[o + j]? = some u)
  | [], o, w, cur, h => ⟨cur, h, rfl, fun _ _ => rfl, fun j u hj => by simp at hj⟩
  | v :: r, o, w, cur, h => by
    obtain ⟨cur', h1, h2, h3, h4⟩ := heap_setCells_same g e r (o + 1) (w.setCell ⟨g, o, none⟩ v) (cur.setIfInBounds o v) (heap_setCell_same w g o cur e v h)
    refine ⟨cur', h1, by simpa using h2, ?_, ?_⟩
    · intro j hj
      rw [h3 j (by omega), Array.getElem?_setIfInBounds_ne (by omega)]
    · intro j u hj hlt
      cases j with
      | zero =>
        simp at hj
        subst hj
        rw [Nat.add_zero, h3 o (by omega), Array.getElem?_setIfInBounds_self_of_lt (by omega)]
      | succ j =>
        have := h4 j u (by simpa using hj) (by simp; omega)
        rwa [show o + (j + 1) = o + 1 + j by omega]
theorem run_own {P : Program} (w : World) (t ty e : TypeId) (i : TypeInfo) (z : Value) (size bytes : Nat) (h1 : P.underlying t = some (.slice e)) (h2 : P.info? e = some i) (h3 : i.zero = some z) (h4 : i.size = size) (h5 : i.bytes = bytes) (h6 : z.cells.size = size) (h7 : 0 < size)
    (base : Nat) (v : Value) (n : Nat) (xs : List Value) (hown : OwnR w base e size v n xs)
    (ad : Addr) (c : Nat) (news : List Value) (hn : news.length = size) (hc : ∀ j u, news[j]? = some u → w.cell? (ad.add j) = some u) (h1c : ∀ u ∈ news, u.oneCell' = true)
    (b1 : n + 1 ≤ maxLen) (b2 : (n + 1) * bytes ≤ 140737488355328) (hbase : base ≤ w.heap.size) :
    ∃ g' o' cap' w', (Builtin.append_ #[t, t] ty #[v, .slice (some ad) 1 c]).run P w = .ok (.slice (some ⟨g', o', none⟩) (n + 1) cap') w' ∧ OwnR w' base e size (.slice (some ⟨g', o', none⟩) (n + 1) cap') (n + 1) (xs ++ news) ∧ AppFr w w' v g' := by
  have hn1 : news.length = 1 * size := by omega
  obtain ⟨hl, hown⟩ := hown
  rcases hown with ⟨rfl, rfl⟩ | ⟨g, o, cap, cur, rfl, hbg, hg, hnc, hcm, hcs, hcu⟩
  · obtain rfl : xs = [] := List.eq_nil_of_length_eq_zero (by simpa using hl)
    obtain ⟨v', w', hrun, r1, r2, _⟩ := run_append_own (P := P) w w.heap.size t ty e i z size bytes h1 h2 h3 h4 h5 h6 h7 (.slice none 0 0) 0 [] (World.ownsRow_nil w _ e size) ad 1 c news hn1 hc h1c b1 b2 (Nat.le_refl _)
    rcases r1.2 with ⟨_, hz⟩ | ⟨g, cap, cur, rfl, hbg, hg, _⟩
    · exact absurd hz (by simp)
    · exact ⟨g, 0, cap, w', hrun, OwnR.of_ownsRow r1 hbase, ⟨r2.os, r2.tape, r2.output, r2.size, fun j hj _ => r2.block j hj (by simp [Value.ownBlock]), Or.inr hbg, lt_of_block hg⟩⟩
  · by_cases hroom : n + 1 ≤ cap
    · subst h4
      have hfit : o + (n + 1) * i.size ≤ cur.size := Nat.le_trans (Nat.add_le_add_left (Nat.mul_le_mul_right _ hroom) o) hcs
      have hex : (n + 1) * i.size = n * i.size + i.size := by rw [Nat.add_mul, Nat.one_mul]
      have hrun := run_append_room_cells (P := P) w t ty e i h1 h2 g o n cap ad 1 c news hn1 hc h1c hroom
        (fun j hj => by rw [cell_of_row w g _ cur e (0, 0) hg]; simp; omega) (fun j _ => frozen_of_row w g _ cur e hg)
      obtain ⟨cur', q1, q2, q3, q4⟩ := heap_setCells_same g e news (o + n * i.size) w cur hg
      have ts := tape_setCells g news (o + n * i.size) w
      refine ⟨g, o, cap, _, hrun, ⟨by rw [List.length_append, hl, hn]; omega, Or.inr ⟨g, o, cap, cur', rfl, hbg, q1, hroom, hcm, by omega, ?_⟩⟩, ⟨ts.2.1, ts.1, ts.2.2.1, by rw [ts.2.2.2]; exact Nat.le_refl _, fun j _ hj => heap_setCells_other g news _ w j (fun h => hj (by simp [Value.ownBlock, h])), Or.inl rfl, lt_of_block q1⟩⟩
      intro j u hj
      rw [List.getElem?_append] at hj
      split at hj
      · rw [q3 _ (by omega)]; exact hcu j u hj
      · have := q4 (j - xs.length) u hj (by
          have : j - xs.length < news.length := by
            rcases Nat.lt_or_ge (j - xs.length) news.length with h | h
            · exact h
            · rw [List.getElem?_eq_none h] at hj; exact absurd hj (by simp)
          omega)
        rwa [show o + n * i.size + (j - xs.length) = o + j by omega] at this
    · obtain ⟨v', w', hrun, r1, r2⟩ := run_append_arg_grows (P := P) w t ty e i z size bytes h1 h2 h3 h4 h5 h6 h7 ⟨g, o, none⟩ n cap xs hl (fun j u hj => by rw [Addr.add_lit, cell_of_row w g _ cur e (0, 0) hg]; exact hcu j u hj) ad 1 c news hn1 hc (by omega) b1 b2
      rcases r1.2 with ⟨_, hz⟩ | ⟨g', cap', cur', rfl, hbg', hg', _⟩
      · exact absurd hz (by simp)
      · exact ⟨g', 0, cap', w', hrun, OwnR.of_ownsRow r1 hbase, ⟨r2.os, r2.tape, r2.output, r2.size, fun j hj _ => r2.block j hj (by simp), Or.inr hbg', lt_of_block hg'⟩⟩
theorem step_own {P : Program} {ops : Array Oper} {o : Oper} {a : Act} {w : World} {K : Act → World → Prop} {Q : Exit → Act → World → Prop} {E : Prop}
    (hg : o.guard = none) (s x : Operand) (t : TypeId) (hop : o.op = Op.call { callee := Callee.builtin Builtin.append, args := #[s, x], argTypes := #[t, t] })
    (e : TypeId) (i : TypeInfo) (z : Value) (size bytes : Nat) (h1 : P.underlying t = some (.slice e)) (h2 : P.info? e = some i) (h3 : i.zero = some z) (h4 : i.size = size) (h5 : i.bytes = bytes) (h6 : z.cells.size = size) (h7 : 0 < size)
    (base : Nat) (v : Value) (n : Nat) (xs : List Value) (hs : a.eval s = v) (hown : OwnR w base e size v n xs)
    (ad : Addr) (c : Nat) (news : List Value) (hx : a.eval x = .slice (some ad) 1 c) (hn : news.length = size) (hc : ∀ j u, news[j]? = some u → w.cell? (ad.add j) = some u) (h1c : ∀ u ∈ news, u.oneCell' = true)
    (b1 : n + 1 ≤ maxLen) (b2 : (n + 1) * bytes ≤ 140737488355328) (hbase : base ≤ w.heap.size)
    (hK : ∀ g' o' cap' w', OwnR w' base e size (.slice (some ⟨g', o', none⟩) (n + 1) cap') (n + 1) (xs ++ news) → AppFr w w' v g' → K (a.put o.dst (.slice (some ⟨g', o', none⟩) (n + 1) cap')) w') :
    if Region.wanted o (yielded ops a.tmps) = true then Oper.wp P o a w K Q else E := by
  have hw : Region.wanted o (yielded ops a.tmps) = true := by simp [Region.wanted, hg]
  rw [if_pos hw]
  obtain ⟨g', o', cap', w', hrun, r1, r2⟩ := run_own (P := P) w t o.type e i z size bytes h1 h2 h3 h4 h5 h6 h7 base v n xs hown ad c news hn hc h1c b1 b2 hbase
  unfold Oper.wp
  simp [execOp, hop, resolve, invoke, builtin, hs, hx, hrun, Result.andThen]
  exact hK g' o' cap' w' r1 r2
theorem wpList_own {P : Program} (w : World) {ops : Array Oper} {rest : List Oper} {o : Oper} {a : Act} {Q : Exit → Act → World → Prop}
    (hg : o.guard = none) (s x : Operand) (t : TypeId) (hop : o.op = Op.call { callee := Callee.builtin Builtin.append, args := #[s, x], argTypes := #[t, t] })
    (e : TypeId) (i : TypeInfo) (z : Value) (size bytes : Nat) (h1 : P.underlying t = some (.slice e)) (h2 : P.info? e = some i) (h3 : i.zero = some z) (h4 : i.size = size) (h5 : i.bytes = bytes) (h6 : z.cells.size = size) (h7 : 0 < size)
    (base : Nat) (v : Value) (n : Nat) (xs : List Value) (hs : a.eval s = v) (hown : OwnR w base e size v n xs)
    (ad : Addr) (c : Nat) (news : List Value) (hx : a.eval x = .slice (some ad) 1 c) (hn : news.length = size) (hc : ∀ j u, news[j]? = some u → w.cell? (ad.add j) = some u) (h1c : ∀ u ∈ news, u.oneCell' = true)
    (b1 : n + 1 ≤ maxLen) (b2 : (n + 1) * bytes ≤ 140737488355328) (hbase : base ≤ w.heap.size)
    (hK : ∀ g' o' cap' w', OwnR w' base e size (.slice (some ⟨g', o', none⟩) (n + 1) cap') (n + 1) (xs ++ news) → AppFr w w' v g' → wpList P ops Q rest (a.put o.dst (.slice (some ⟨g', o', none⟩) (n + 1) cap')) w') :
    wpList P ops Q (o :: rest) a w := by
  refine wpList_plain hg fun K hK' => ?_
  obtain ⟨g', o', cap', w', hrun, r1, r2⟩ := run_own (P := P) w t o.type e i z size bytes h1 h2 h3 h4 h5 h6 h7 base v n xs hown ad c news hn hc h1c b1 b2 hbase
  unfold Oper.wp
  simp [execOp, hop, resolve, invoke, builtin, hs, hx, hrun, Result.andThen]
  exact hK' _ _ (hK g' o' cap' w' r1 r2)
end Go.Proofs.YtilcmkiihefkkabGreatDoor
end
section
namespace Go.Proofs.YtilcmkiihefkkabGreatDoor.Mn
open Go.RowKit
/-- one block of the heap has turned, nothing else -/
structure Upd (w w' : World) (g : Nat) (o : Obj) : Prop where
  os : w'.os = w.os
  tape : w'.tape = w.tape
  output : w'.output = w.output
  size : w'.heap.size = w.heap.size
  here : w'.heap[g]? = some o
  other : ∀ j, j ≠ g → w'.heap[j]? = w.heap[j]?
theorem Upd.below {w w' : World} {g : Nat} {o : Obj} (h : Upd w w' g o) {B : Nat} (hB : B ≤ g) : Below B w w' :=
  ⟨h.os, h.tape, h.output, by rw [h.size]; exact Nat.le_refl _, fun k hk => h.other k (by omega)⟩
theorem Upd.of_setCell {w : World} {g i : Nat} {cs : Array Value} {t : TypeId} (v : Value) (hg : w.heap[g]? = some (.cells cs t (0, 0))) :
    Upd w (w.setCell ⟨g, i, none⟩ v) g (.cells (cs.setIfInBounds i v) t (0, 0)) :=
  ⟨rfl, rfl, rfl, by simp, heap_setCell_same w g i cs t v hg, fun j hj => heap_setCell_other w _ j v hj⟩
theorem Upd.drew {w w' : World} {g : Nat} {o : Obj} (h : Upd w w' g o) : Upd w w'.drew g o := ⟨h.os, h.tape, h.output, h.size, h.here, h.other⟩
theorem Upd.drewN {w w' : World} {g : Nat} {o : Obj} (h : Upd w w' g o) (n : Nat) : Upd w (w'.drewN n) g o := ⟨h.os, h.tape, h.output, h.size, h.here, h.other⟩
theorem Upd.setCell {w w' : World} {B i : Nat} {cs : Array Value} {t : TypeId} (h : Upd w w' B (.cells cs t (0, 0))) (v : Value) : Upd w (w'.setCell ⟨B, i, none⟩ v) B (.cells (cs.setIfInBounds i v) t (0, 0)) :=
  ⟨h.os, h.tape, h.output, by simpa using h.size, heap_setCell_same w' B i cs t v h.here, fun j hj => (heap_setCell_other w' _ j v hj).trans (h.other j hj)⟩
theorem cell_at {w : World} {b i : Nat} {cs : Array Value} {t : TypeId} {v : Value} (h : w.heap[b]? = some (.cells cs t (0, 0))) (hv : cs[i]? = some v) : w.cell? ⟨b, i, none⟩ = some v := by
  rw [cell_of_row w b i cs t (0, 0) h]; exact hv
/-- a slice of the call's own, from some place of its row on -/
def OwnR (w : World) (base : Nat) (e : TypeId) (size : Nat) (v : Value) (n : Nat) (xs : List Value) : Prop :=
  xs.length = n * size ∧
  ((v = .slice none 0 0 ∧ n = 0) ∨ ∃ g o cap cur, v = .slice (some ⟨g, o, none⟩) n cap ∧ base ≤ g ∧ w.heap[g]? = some (.cells cur e (0, 0)) ∧ n ≤ cap ∧ cap ≤ maxLen ∧ o + cap * size ≤ cur.size ∧
    (∀ j u, xs[j]? = some u → cur[o + j]? = some u))
theorem OwnR.nil (w : World) (base : Nat) (e : TypeId) (size : Nat) : OwnR w base e size (.slice none 0 0) 0 [] := ⟨by simp, Or.inl ⟨rfl, rfl⟩⟩
theorem OwnR.other {w w' : World} {base : Nat} {e : TypeId} {size : Nat} {v : Value} {n : Nat} {xs : List Value} (h : OwnR w base e size v n xs) (hk : ∀ g, v.ownBlock = some g → g < w.heap.size → w'.heap[g]? = w.heap[g]?) : OwnR w' base e size v n xs := by
  obtain ⟨h0, h⟩ := h
  rcases h with ⟨rfl, rfl⟩ | ⟨g, o, cap, cur, rfl, h1, h2, h3⟩
  · exact ⟨h0, Or.inl ⟨rfl, rfl⟩⟩
  · exact ⟨h0, Or.inr ⟨g, o, cap, cur, rfl, h1, (hk g rfl (lt_of_block h2)).trans h2, h3⟩⟩
theorem OwnR.tag {w : World} {base : Nat} {e : TypeId} {size : Nat} {v : Value} {n : Nat} {xs : List Value} (h : OwnR w base e size v n xs) {B : Nat} {cs : Array Value} {t : TypeId} (ht : t ≠ e) (hB : w.heap[B]? = some (.cells cs t (0, 0))) : v.ownBlock ≠ some B := by
  obtain ⟨_, h⟩ := h
  rcases h with ⟨rfl, rfl⟩ | ⟨g, o, cap, cur, rfl, h1, h2, h3⟩
  · simp [Value.ownBlock]
  · intro e
    simp only [Value.ownBlock, Option.some.injEq] at e
    subst e
    rw [h2] at hB
    simp at hB
    exact ht hB.2.symm
theorem OwnR.lt {w : World} {base : Nat} {e : TypeId} {size : Nat} {v : Value} {n : Nat} {xs : List Value} (h : OwnR w base e size v n xs) {g : Nat} (hg : v.ownBlock = some g) : base ≤ g ∧ g < w.heap.size := by
  obtain ⟨_, h⟩ := h
  rcases h with ⟨rfl, rfl⟩ | ⟨g', o, cap, cur, rfl, h1, h2, h3⟩
  · simp [Value.ownBlock] at hg
  · simp only [Value.ownBlock, Option.some.injEq] at hg
    subst hg
    exact ⟨h1, lt_of_block h2⟩
theorem OwnR.of_ownsRow {w : World} {base base' : Nat} {e : TypeId} {size : Nat} {v : Value} {n : Nat} {xs : List Value} (h : w.ownsRow base e size v n xs) (hb : base' ≤ base) : OwnR w base' e size v n xs := by
  obtain ⟨h0, h⟩ := h
  refine ⟨h0, ?_⟩
  rcases h with ⟨rfl, rfl⟩ | ⟨g, cap, cur, rfl, h1, h2, h3, h4, h5, h6⟩
  · exact Or.inl ⟨rfl, rfl⟩
  · refine Or.inr ⟨g, 0, cap, cur, rfl, by omega, h2, h3, h4, by omega, ?_⟩
    intro j u hj
    rw [← h6] at hj
    rw [List.getElem?_take] at hj
    split at hj
    · simpa using hj
    · exact absurd hj (by simp)
/-- what an append leaves alone -/
structure AppFr (w w' : World) (v : Value) (g' : Nat) : Prop where
  os : w'.os = w.os
  tape : w'.tape = w.tape
  output : w'.output = w.output
  size : w.heap.size ≤ w'.heap.size
  other : ∀ j, j < w.heap.size → v.ownBlock ≠ some j → w'.heap[j]? = w.heap[j]?
  new : v.ownBlock = some g' ∨ w.heap.size ≤ g'
  lt : g' < w'.heap.size
theorem tape_setCells (g : Nat) : ∀ (vs : List Value) (o : Nat) (w : World), (w.setCells g o vs).tape = w.tape ∧ (w.setCells g o vs).os = w.os ∧ (w.setCells g o vs).output = w.output ∧ (w.setCells g o vs).heap.size = w.heap.size
  | [], _, _ => ⟨rfl, rfl, rfl, rfl⟩
  | v :: r, o, w => by
    have := tape_setCells g r (o + 1) (w.setCell ⟨g, o, none⟩ v)
    rw [World.setCells]
    exact ⟨this.1, this.2.1, this.2.2.1, by rw [this.2.2.2]; simp⟩
theorem heap_setCells_other (g : Nat) : ∀ (vs : List Value) (o : Nat) (w : World) (j : Nat), j ≠ g → (w.setCells g o vs).heap[j]? = w.heap[j]?
  | [], _, _, _, _ => rfl
  | v :: r, o, w, j, h => by
    rw [World.setCells, heap_setCells_other g r (o + 1) _ j h]
    exact heap_setCell_other w _ j v h
theorem heap_setCells_same (g : Nat) (e : TypeId) : ∀ (vs : List Value) (o : Nat) (w : World) (cur : Array Value), w.heap[g]? = some (.cells cur e (0, 0)) →
    ∃ cur' : Array Value, (w.setCells g o vs).heap[g]? = some (.cells cur' e (0, 0)) ∧ cur'.size = cur.size ∧ (∀ j, j < o → cur'[j]? = cur[j]?) ∧ (∀ j u, vs[j]? = some u → o + j < cur.size → cur'[o + j]? = some u)
  | [], o, w, cur, h => ⟨cur, h, rfl, fun _ _ => rfl, fun j u hj => by simp at hj⟩
  | v :: r, o, w, cur, h => by
    obtain ⟨cur', h1, h2, h3, h4⟩ := heap_setCells_same g e r (o + 1) (w.setCell ⟨g, o, none⟩ v) (cur.setIfInBounds o v) (heap_setCell_same w g o cur e v h)
    refine ⟨cur', h1, by simpa using h2, ?_, ?_⟩
    · intro j hj
      rw [h3 j (by omega), Array.getElem?_setIfInBounds_ne (by omega)]
    · intro j u hj hlt
      cases j with
      | zero =>
        simp at hj
        subst hj
        rw [Nat.add_zero, h3 o (by omega), Array.getElem?_setIfInBounds_self_of_lt (by omega)]
      | succ j =>
        have := h4 j u (by simpa using hj) (by simp; omega)
        rwa [show o + (j + 1) = o + 1 + j by omega]
theorem run_own {P : Program} (w : World) (t ty e : TypeId) (i : TypeInfo) (z : Value) (size bytes : Nat) (h1 : P.underlying t = some (.slice e)) (h2 : P.info? e = some i) (h3 : i.zero = some z) (h4 : i.size = size) (h5 : i.bytes = bytes) (h6 : z.cells.size = size) (h7 : 0 < size)
    (base : Nat) (v : Value) (n : Nat) (xs : List Value) (hown : OwnR w base e size v n xs)
    (ad : Addr) (c : Nat) (news : List Value) (hn : news.length = size) (hc : ∀ j u, news[j]? = some u → w.cell? (ad.add j) = some u) (h1c : ∀ u ∈ news, u.oneCell' = true)
    (b1 : n + 1 ≤ maxLen) (b2 : (n + 1) * bytes ≤ 140737488355328) (hbase : base ≤ w.heap.size) :
    ∃ g' o' cap' w', (Builtin.append_ #[t, t] ty #[v, .slice (some ad) 1 c]).run P w = .ok (.slice (some ⟨g', o', none⟩) (n + 1) cap') w' ∧ OwnR w' base e size (.slice (some ⟨g', o', none⟩) (n + 1) cap') (n + 1) (xs ++ news) ∧ AppFr w w' v g' := by
  have hn1 : news.length = 1 * size := by omega
  obtain ⟨hl, hown⟩ := hown
  rcases hown with ⟨rfl, rfl⟩ | ⟨g, o, cap, cur, rfl, hbg, hg, hnc, hcm, hcs, hcu⟩
  · obtain rfl : xs = [] := List.eq_nil_of_length_eq_zero (by simpa using hl)
    obtain ⟨v', w', hrun, r1, r2, _⟩ := run_append_own (P := P) w w.heap.size t ty e i z size bytes h1 h2 h3 h4 h5 h6 h7 (.slice none 0 0) 0 [] (World.ownsRow_nil w _ e size) ad 1 c news hn1 hc h1c b1 b2 (Nat.le_refl _)
    rcases r1.2 with ⟨_, hz⟩ | ⟨g, cap, cur, rfl, hbg, hg, _⟩
    · exact absurd hz (by simp)
    · exact ⟨g, 0, cap, w', hrun, OwnR.of_ownsRow r1 hbase, ⟨r2.os, r2.tape, r2.output, r2.size, fun j hj _ => r2.block j hj (by simp [Value.ownBlock]), Or.inr hbg, lt_of_block hg⟩⟩
  · by_cases hroom : n + 1 ≤ cap
    · subst h4
      have hfit : o + (n + 1) * i.size ≤ cur.size := Nat.le_trans (Nat.add_le_add_left (Nat.mul_le_mul_right _ hroom) o) hcs
      have hex : (n + 1) * i.size = n * i.size + i.size := by rw [Nat.add_mul, Nat.one_mul]
      have hrun := run_append_room_cells (P := P) w t ty e i h1 h2 g o n cap ad 1 c news hn1 hc h1c hroom
        (fun j hj => by rw [cell_of_row w g _ cur e (0, 0) hg]; simp; omega) (fun j _ => frozen_of_row w g _ cur e hg)
      obtain ⟨cur', q1, q2, q3, q4⟩ := heap_setCells_same g e news (o + n * i.size) w cur hg
      have ts := tape_setCells g news (o + n * i.size) w
      refine ⟨g, o, cap, _, hrun, ⟨by rw [List.length_append, hl, hn]; omega, Or.inr ⟨g, o, cap, cur', rfl, hbg, q1, hroom, hcm, by omega, ?_⟩⟩, ⟨ts.2.1, ts.1, ts.2.2.1, by rw [ts.2.2.2]; exact Nat.le_refl _, fun j _ hj => heap_setCells_other g news _ w j (fun h => hj (by simp [Value.ownBlock, h])), Or.inl rfl, lt_of_block q1⟩⟩
      intro j u hj
      rw [List.getElem?_append] at hj
      split at hj
      · rw [q3 _ (by omega)]; exact hcu j u hj
      · have := q4 (j - xs.length) u hj (by
          have : j - xs.length < news.length := by
            rcases Nat.lt_or_ge (j - xs.length) news.length with h | h
            · exact h
            · rw [List.getElem?_eq_none h] at hj; exact absurd hj (by simp)
          omega)
        rwa [show o + n * i.size + (j - xs.length) = o + j by omega] at this
    · obtain ⟨v', w', hrun, r1, r2⟩ := run_append_arg_grows (P := P) w t ty e i z size bytes h1 h2 h3 h4 h5 h6 h7 ⟨g, o, none⟩ n cap xs hl (fun j u hj => by rw [Addr.add_lit, cell_of_row w g _ cur e (0, 0) hg]; exact hcu j u hj) ad 1 c news hn1 hc (by omega) b1 b2
      rcases r1.2 with ⟨_, hz⟩ | ⟨g', cap', cur', rfl, hbg', hg', _⟩
      · exact absurd hz (by simp)
      · exact ⟨g', 0, cap', w', hrun, OwnR.of_ownsRow r1 hbase, ⟨r2.os, r2.tape, r2.output, r2.size, fun j hj _ => r2.block j hj (by simp), Or.inr hbg', lt_of_block hg'⟩⟩
theorem step_own {P : Program} {ops : Array Oper} {o : Oper} {a : Act} {w : World} {K : Act → World → Prop} {Q : Exit → Act → World → Prop} {E : Prop}
    (hg : o.guard = none) (s x : Operand) (t : TypeId) (hop : o.op = Op.call { callee := Callee.builtin Builtin.append, args := #[s, x], argTypes := #[t, t] })
    (e : TypeId) (i : TypeInfo) (z : Value) (size bytes : Nat) (h1 : P.underlying t = some (.slice e)) (h2 : P.info? e = some i) (h3 : i.zero = some z) (h4 : i.size = size) (h5 : i.bytes = bytes) (h6 : z.cells.size = size) (h7 : 0 < size)
    (base : Nat) (v : Value) (n : Nat) (xs : List Value) (hs : a.eval s = v) (hown : OwnR w base e size v n xs)
    (ad : Addr) (c : Nat) (news : List Value) (hx : a.eval x = .slice (some ad) 1 c) (hn : news.length = size) (hc : ∀ j u, news[j]? = some u → w.cell? (ad.add j) = some u) (h1c : ∀ u ∈ news, u.oneCell' = true)
    (b1 : n + 1 ≤ maxLen) (b2 : (n + 1) * bytes ≤ 140737488355328) (hbase : base ≤ w.heap.size)
    (hK : ∀ g' o' cap' w', OwnR w' base e size (.slice (some ⟨g', o', none⟩) (n + 1) cap') (n + 1) (xs ++ news) → AppFr w w' v g' → K (a.put o.dst (.slice (some ⟨g', o', none⟩) (n + 1) cap')) w') :
    if Region.wanted o (yielded ops a.tmps) = true then Oper.wp P o a w K Q else E := by
  have hw : Region.wanted o (yielded ops a.tmps) = true := by simp [Region.wanted, hg]
  rw [if_pos hw]
  obtain ⟨g', o', cap', w', hrun, r1, r2⟩ := run_own (P := P) w t o.type e i z size bytes h1 h2 h3 h4 h5 h6 h7 base v n xs hown ad c news hn hc h1c b1 b2 hbase
  unfold Oper.wp
  simp [execOp, hop, resolve, invoke, builtin, hs, hx, hrun, Result.andThen]
  exact hK g' o' cap' w' r1 r2
theorem wpList_own {P : Program} (w : World) {ops : Array Oper} {rest : List Oper} {o : Oper} {a : Act} {Q : Exit → Act → World → Prop}
    (hg : o.guard = none) (s x : Operand) (t : TypeId) (hop : o.op = Op.call { callee := Callee.builtin Builtin.append, args := #[s, x], argTypes := #[t, t] })
    (e : TypeId) (i : TypeInfo) (z : Value) (size bytes : Nat) (h1 : P.underlying t = some (.slice e)) (h2 : P.info? e = some i) (h3 : i.zero = some z) (h4 : i.size = size) (h5 : i.bytes = bytes) (h6 : z.cells.size = size) (h7 : 0 < size)
    (base : Nat) (v : Value) (n : Nat) (xs : List Value) (hs : a.eval s = v) (hown : OwnR w base e size v n xs)
    (ad : Addr) (c : Nat) (news : List Value) (hx : a.eval x = .slice (some ad) 1 c) (hn : news.length = size) (hc : ∀ j u, news[j]? = some u → w.cell? (ad.add j) = some u) (h1c : ∀ u ∈ news, u.oneCell' = true)
    (b1 : n + 1 ≤ maxLen) (b2 : (n + 1) * bytes ≤ 140737488355328) (hbase : base ≤ w.heap.size)
    (hK : ∀ g' o' cap' w', OwnR w' base e size (.slice (some ⟨g', o', none⟩) (n + 1) cap') (n + 1) (xs ++ news) → AppFr w w' v g' → wpList P ops Q rest (a.put o.dst (.slice (some ⟨g', o', none⟩) (n + 1) cap')) w') :
    wpList P ops Q (o :: rest) a w := by
  refine wpList_plain hg fun K hK' => ?_
  obtain ⟨g', o', cap', w', hrun, r1, r2⟩ := run_own (P := P) w t o.type e i z size bytes h1 h2 h3 h4 h5 h6 h7 base v n xs hown ad c news hn hc h1c b1 b2 hbase
  unfold Oper.wp
  simp [execOp, hop, resolve, invoke, builtin, hs, hx, hrun, Result.andThen]
  exact hK' _ _ (hK g' o' cap' w' r1 r2)
end Go.Proofs.YtilcmkiihefkkabGreatDoor.Mn
end
