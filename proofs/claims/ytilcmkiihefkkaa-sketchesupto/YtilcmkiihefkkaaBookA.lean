import Derived.Test.YtilcmkiihefkkaaAdd
set_option linter.unusedVariables false
set_option linter.unusedSimpArgs false
set_option maxRecDepth 100000
namespace Go.Proofs.Ytilcmkiihefkkaa
open Go.RowKit

/-- where a slice begins -/
def offOf : Value → Nat
  | .slice (some a) _ _ => a.off
  | _ => 0

/-- what an append leaves alone, cell by cell -/
structure AppFr2 (w w' : World) (v : Value) (n size g' o' : Nat) : Prop where
  fr : AppFr w w' v g'
  blk : ∀ (b : Nat) (cur : Array Value) (t : TypeId), w.heap[b]? = some (Obj.cells cur t (0, 0)) → ∃ cur' : Array Value, w'.heap[b]? = some (Obj.cells cur' t (0, 0)) ∧ cur'.size = cur.size ∧ ∀ off, (v.ownBlock = some b → off < offOf v + n * size) → cur'[off]? = cur[off]?
  off : v.ownBlock = some g' → o' = offOf v

theorem run_own2 {P : Program} (w : World) (t ty e : TypeId) (i : TypeInfo) (z : Value) (size bytes : Nat) (h1 : P.underlying t = some (.slice e)) (h2 : P.info? e = some i) (h3 : i.zero = some z) (h4 : i.size = size) (h5 : i.bytes = bytes) (h6 : z.cells.size = size) (h7 : 0 < size)
    (base : Nat) (v : Value) (n : Nat) (xs : List Value) (hown : OwnR w base e size v n xs)
    (ad : Addr) (c : Nat) (news : List Value) (hn : news.length = size) (hc : ∀ j u, news[j]? = some u → w.cell? (ad.add j) = some u) (h1c : ∀ u ∈ news, u.oneCell' = true)
    (b1 : n + 1 ≤ maxLen) (b2 : (n + 1) * bytes ≤ 140737488355328) (hbase : base ≤ w.heap.size) :
    ∃ g' o' cap' w', (Builtin.append_ #[t, t] ty #[v, .slice (some ad) 1 c]).run P w = .ok (.slice (some ⟨g', o', none⟩) (n + 1) cap') w' ∧ OwnR w' base e size (.slice (some ⟨g', o', none⟩) (n + 1) cap') (n + 1) (xs ++ news) ∧ AppFr2 w w' v n size g' o' := by
  have hn1 : news.length = 1 * size := by omega
  obtain ⟨hl, hown⟩ := hown
  rcases hown with ⟨rfl, rfl⟩ | ⟨g, o, cap, cur, rfl, hbg, hg, hnc, hcm, hcs, hcu⟩
  · obtain rfl : xs = [] := List.eq_nil_of_length_eq_zero (by simpa using hl)
    obtain ⟨v', w', hrun, r1, r2, _⟩ := run_append_own (P := P) w w.heap.size t ty e i z size bytes h1 h2 h3 h4 h5 h6 h7 (.slice none 0 0) 0 [] (World.ownsRow_nil w _ e size) ad 1 c news hn1 hc h1c b1 b2 (Nat.le_refl _)
    rcases r1.2 with ⟨_, hz⟩ | ⟨g, cap, cur, rfl, hbg, hg, _⟩
    · exact absurd hz (by simp)
    · refine ⟨g, 0, cap, w', hrun, OwnR.of_ownsRow r1 hbase, ⟨⟨r2.os, r2.tape, r2.output, r2.size, fun j hj _ => r2.block j hj (by simp [Value.ownBlock]), Or.inr hbg, lt_of_block hg⟩, ?_, fun h => by simp [Value.ownBlock] at h⟩⟩
      intro b cur' t' hb
      exact ⟨cur', (r2.block b (lt_of_block hb) (by simp [Value.ownBlock])).trans hb, rfl, fun _ _ => rfl⟩
  · by_cases hroom : n + 1 ≤ cap
    · subst h4
      have hfit : o + (n + 1) * i.size ≤ cur.size := Nat.le_trans (Nat.add_le_add_left (Nat.mul_le_mul_right _ hroom) o) hcs
      have hex : (n + 1) * i.size = n * i.size + i.size := by rw [Nat.add_mul, Nat.one_mul]
      have hrun := run_append_room_cells (P := P) w t ty e i h1 h2 g o n cap ad 1 c news hn1 hc h1c hroom
        (fun j hj => by rw [cell_of_row w g _ cur e (0, 0) hg]; simp; omega) (fun j _ => frozen_of_row w g _ cur e hg)
      obtain ⟨cur', q1, q2, q3, q4⟩ := heap_setCells_same g e news (o + n * i.size) w cur hg
      have ts := tape_setCells g news (o + n * i.size) w
      refine ⟨g, o, cap, _, hrun, ⟨by rw [List.length_append, hl, hn]; omega, Or.inr ⟨g, o, cap, cur', rfl, hbg, q1, hroom, hcm, by omega, ?_⟩⟩, ⟨⟨ts.2.1, ts.1, ts.2.2.1, by rw [ts.2.2.2]; exact Nat.le_refl _, fun j _ hj => heap_setCells_other g news _ w j (fun h => hj (by simp [Value.ownBlock, h])), Or.inl rfl, lt_of_block q1⟩, ?_, fun _ => rfl⟩⟩
      · intro j u hj
        rw [List.getElem?_append] at hj
        split at hj
        · rw [q3 _ (by omega)]; exact hcu j u hj
        · have := q4 (j - xs.length) u hj (by
            have : j - xs.length < news.length := by
              rcases Nat.lt_or_ge (j - xs.length) news.length with h | h
              · exact h
              · rw [List.getElem?_eq_none h] at hj; exact absurd hj (by simp)
            omega)
          rwa [show o + n * i.size + (j - xs.length) = o + j by omega] at this
      · intro b curb tb hb
        by_cases hbg' : b = g
        · subst hbg'
          rw [hg] at hb
          simp only [Option.some.injEq, Obj.cells.injEq, and_true] at hb
          obtain ⟨rfl, rfl⟩ := hb
          exact ⟨cur', q1, q2, fun off hoff => q3 off (hoff rfl)⟩
        · exact ⟨curb, (heap_setCells_other g news _ w b hbg').trans hb, rfl, fun _ _ => rfl⟩
    · obtain ⟨v', w', hrun, r1, r2⟩ := run_append_arg_grows (P := P) w t ty e i z size bytes h1 h2 h3 h4 h5 h6 h7 ⟨g, o, none⟩ n cap xs hl (fun j u hj => by rw [Addr.add_lit, cell_of_row w g _ cur e (0, 0) hg]; exact hcu j u hj) ad 1 c news hn1 hc (by omega) b1 b2
      rcases r1.2 with ⟨_, hz⟩ | ⟨g', cap', cur', rfl, hbg', hg', _⟩
      · exact absurd hz (by simp)
      · refine ⟨g', 0, cap', w', hrun, OwnR.of_ownsRow r1 hbase, ⟨⟨r2.os, r2.tape, r2.output, r2.size, fun j hj _ => r2.block j hj (by simp), Or.inr hbg', lt_of_block hg'⟩, ?_, ?_⟩⟩
        · intro b curb tb hb
          exact ⟨curb, (r2.block b (lt_of_block hb) (by simp)).trans hb, rfl, fun _ _ => rfl⟩
        · intro h
          simp only [Value.ownBlock, Option.some.injEq] at h
          subst h
          have := lt_of_block hg
          omega

theorem wpList_own2 {P : Program} (w : World) {ops : Array Oper} {rest : List Oper} {o : Oper} {a : Act} {Q : Exit → Act → World → Prop}
    (hg : o.guard = none) (s x : Operand) (t : TypeId) (hop : o.op = Op.call { callee := Callee.builtin Builtin.append, args := #[s, x], argTypes := #[t, t] })
    (e : TypeId) (i : TypeInfo) (z : Value) (size bytes : Nat) (h1 : P.underlying t = some (.slice e)) (h2 : P.info? e = some i) (h3 : i.zero = some z) (h4 : i.size = size) (h5 : i.bytes = bytes) (h6 : z.cells.size = size) (h7 : 0 < size)
    (base : Nat) (v : Value) (n : Nat) (xs : List Value) (hs : a.eval s = v) (hown : OwnR w base e size v n xs)
    (ad : Addr) (c : Nat) (news : List Value) (hx : a.eval x = .slice (some ad) 1 c) (hn : news.length = size) (hc : ∀ j u, news[j]? = some u → w.cell? (ad.add j) = some u) (h1c : ∀ u ∈ news, u.oneCell' = true)
    (b1 : n + 1 ≤ maxLen) (b2 : (n + 1) * bytes ≤ 140737488355328) (hbase : base ≤ w.heap.size)
    (hK : ∀ g' o' cap' w', OwnR w' base e size (.slice (some ⟨g', o', none⟩) (n + 1) cap') (n + 1) (xs ++ news) → AppFr2 w w' v n size g' o' → wpList P ops Q rest (a.put o.dst (.slice (some ⟨g', o', none⟩) (n + 1) cap')) w') :
    wpList P ops Q (o :: rest) a w := by
  refine wpList_plain hg fun K hK' => ?_
  obtain ⟨g', o', cap', w', hrun, r1, r2⟩ := run_own2 (P := P) w t o.type e i z size bytes h1 h2 h3 h4 h5 h6 h7 base v n xs hown ad c news hn hc h1c b1 b2 hbase
  unfold Oper.wp
  simp [execOp, hop, resolve, invoke, builtin, hs, hx, hrun, Result.andThen]
  exact hK' _ _ (hK g' o' cap' w' r1 r2)

/-- a slice that lies ahead of what is appended, or elsewhere, reads as it did -/
theorem OwnR.app {w w' : World} {base : Nat} {e : TypeId} {size : Nat} {u : Value} {nu : Nat} {xs : List Value} {v : Value} {n sz g' o' : Nat} (h : OwnR w base e size u nu xs) (hf : AppFr2 w w' v n sz g' o')
    (hc : ∀ g, u.ownBlock = some g → v.ownBlock = some g → offOf u + nu * size ≤ offOf v + n * sz) : OwnR w' base e size u nu xs := by
  obtain ⟨h0, h⟩ := h
  refine ⟨h0, ?_⟩
  rcases h with ⟨rfl, rfl⟩ | ⟨g, o, cap, cur, rfl, h1, h2, h3, h4, h5, h6⟩
  · exact Or.inl ⟨rfl, rfl⟩
  · obtain ⟨cur', q1, q2, q3⟩ := hf.blk g cur e h2
    refine Or.inr ⟨g, o, cap, cur', rfl, h1, q1, h3, h4, by omega, fun j x hj => ?_⟩
    have hjl : j < xs.length := by
      rcases Nat.lt_or_ge j xs.length with h | h
      · exact h
      · rw [List.getElem?_eq_none h] at hj; exact absurd hj (by simp)
    rw [q3 (o + j) (fun hv => ?_)]
    · exact h6 j x hj
    · have := hc g rfl hv
      have e : offOf (.slice (some ⟨g, o, none⟩) nu cap) = o := rfl
      rw [e] at this
      omega

theorem Try.info82 : (Try.prog.info? 82).map (fun i => (i.zero, i.size, i.bytes)) = some (some (.agg #[.slice none 0 0, .int .i64 0]), 2, 32) := by kernel_rfl

/-- the entries of the book, as they lie in memory -/
def ecells (E : List (Value × Int)) : List Value := E.flatMap fun e => [e.1, .int .i64 e.2]

theorem ecells_append (E F : List (Value × Int)) : ecells (E ++ F) = ecells E ++ ecells F := by simp [ecells]

theorem ecells_length (E : List (Value × Int)) : (ecells E).length = E.length * 2 := by
  induction E with
  | nil => rfl
  | cons x E ih =>
    show (x.1 :: Value.int .i64 x.2 :: ecells E).length = _
    simp only [List.length_cons, ih]
    omega

theorem ecells_at (E : List (Value × Int)) : ∀ j (h : j < E.length), (ecells E)[2 * j]? = some E[j].1 ∧ (ecells E)[2 * j + 1]? = some (.int .i64 E[j].2) := by
  induction E with
  | nil => intro j h; exact absurd h (by simp)
  | cons x E ih =>
    intro j h
    cases j with
    | zero => exact ⟨rfl, rfl⟩
    | succ j =>
      have := ih j (by simpa using h)
      show (x.1 :: Value.int .i64 x.2 :: ecells E)[2 * (j + 1)]? = _ ∧ (x.1 :: Value.int .i64 x.2 :: ecells E)[2 * (j + 1) + 1]? = _
      rw [show 2 * (j + 1) = 2 * j + 1 + 1 by omega]
      simpa using this

/-- so many words that are the same -/
def marks (n : Nat) (k : Nat) : List W3 := List.replicate n ⟨-1 - (k : Int), 0, false⟩

theorem wcells_iff (X : List W3) (cur : Array Value) (o : Nat) : (∀ i u, (wcells X)[i]? = some u → cur[o + i]? = some u) ↔ ∀ q (h : q < X.length), cur[o + 3 * q]? = some (.int .i64 X[q].h) ∧ cur[o + (3 * q + 1)]? = some (.int .i64 X[q].p) ∧ cur[o + (3 * q + 2)]? = some (.bool X[q].b) := by
  constructor
  · intro h q hq
    have := wcells_at X q hq
    exact ⟨h _ _ this.1, h _ _ this.2.1, h _ _ this.2.2⟩
  · intro h i u hi
    have hlt : i < X.length * 3 := by
      rcases Nat.lt_or_ge i (wcells X).length with hh | hh
      · rwa [wcells_length] at hh
      · rw [List.getElem?_eq_none hh] at hi; exact absurd hi (by simp)
    have hq : i / 3 < X.length := by omega
    have h1 := wcells_at X (i / 3) hq
    have h2 := h (i / 3) hq
    rcases (show i = 3 * (i / 3) ∨ i = 3 * (i / 3) + 1 ∨ i = 3 * (i / 3) + 2 by omega) with he | he | he
    · rw [he] at hi ⊢; rw [h1.1] at hi; rw [h2.1]; exact hi
    · rw [he] at hi ⊢; rw [h1.2.1] at hi; rw [h2.2.1]; exact hi
    · rw [he] at hi ⊢; rw [h1.2.2] at hi; rw [h2.2.2]; exact hi

theorem OwnR.set3 {w : World} {base g o n cap : Nat} {X : List W3} (h : OwnR w base 50 3 (.slice (some ⟨g, o, none⟩) n cap) n (wcells X)) (hX : X.length = n) (j : Nat) (hj : j < n) (y : W3) :
    OwnR (((w.setCell ⟨g, o + j * 3, none⟩ (.int .i64 y.h)).setCell ⟨g, o + j * 3 + 1, none⟩ (.int .i64 y.p)).setCell ⟨g, o + j * 3 + 2, none⟩ (.bool y.b)) base 50 3 (.slice (some ⟨g, o, none⟩) n cap) n (wcells (X.set j y)) := by
  obtain ⟨h0, h⟩ := h
  refine ⟨by rw [wcells_length] at h0 ⊢; rw [List.length_set]; exact h0, ?_⟩
  rcases h with ⟨h, _⟩ | ⟨g', o', cap', cur, he, h1, h2, h3, h4, h5, h6⟩
  · simp at h
  · simp only [Value.slice.injEq, Option.some.injEq, Addr.mk.injEq, and_true, true_and] at he
    obtain ⟨⟨rfl, rfl⟩, rfl⟩ := he
    have hU := ((Upd.of_setCell (i := o + j * 3) (.int .i64 y.h) h2).setCell (i := o + j * 3 + 1) (.int .i64 y.p)).setCell (i := o + j * 3 + 2) (.bool y.b)
    refine Or.inr ⟨g, o, cap, _, rfl, h1, hU.here, h3, h4, by simpa using h5, ?_⟩
    rw [wcells_iff] at h6 ⊢
    intro q hq
    rw [List.length_set] at hq
    have hcap : o + n * 3 ≤ cur.size := Nat.le_trans (Nat.add_le_add_left (Nat.mul_le_mul_right 3 h3) o) h5
    by_cases hqj : q = j
    · subst hqj
      simp only [List.getElem_set_self]
      refine ⟨?_, ?_, ?_⟩
      · rw [Array.getElem?_setIfInBounds_ne (by omega), Array.getElem?_setIfInBounds_ne (by omega), show o + 3 * q = o + q * 3 by omega, Array.getElem?_setIfInBounds_self_of_lt (by omega)]
      · rw [Array.getElem?_setIfInBounds_ne (by omega), show o + (3 * q + 1) = o + q * 3 + 1 by omega, Array.getElem?_setIfInBounds_self_of_lt (by simp; omega)]
      · rw [show o + (3 * q + 2) = o + q * 3 + 2 by omega, Array.getElem?_setIfInBounds_self_of_lt (by simp; omega)]
    · have hne : j ≠ q := fun h => hqj h.symm
      have := h6 q (by omega)
      rw [List.getElem_set_ne hne]
      refine ⟨?_, ?_, ?_⟩
      · rw [Array.getElem?_setIfInBounds_ne (by omega), Array.getElem?_setIfInBounds_ne (by omega), Array.getElem?_setIfInBounds_ne (by omega)]; exact this.1
      · rw [Array.getElem?_setIfInBounds_ne (by omega), Array.getElem?_setIfInBounds_ne (by omega), Array.getElem?_setIfInBounds_ne (by omega)]; exact this.2.1
      · rw [Array.getElem?_setIfInBounds_ne (by omega), Array.getElem?_setIfInBounds_ne (by omega), Array.getElem?_setIfInBounds_ne (by omega)]; exact this.2.2

theorem marks_set (L : List W3) (k j : Nat) (h : j < L.length) : (marks j k ++ L.drop j).set j ⟨-1 - (k : Int), 0, false⟩ = marks (j + 1) k ++ L.drop (j + 1) := by
  unfold marks
  rw [List.set_append_right _ _ (by simp), List.length_replicate, Nat.sub_self, List.drop_eq_getElem_cons h, List.set_cons_zero, List.replicate_succ', List.append_assoc]
  rfl

/-- nothing but one slice's own block has turned -/
structure Fr1 (w w' : World) (v : Value) : Prop where
  os : w'.os = w.os
  tape : w'.tape = w.tape
  output : w'.output = w.output
  size : w'.heap.size = w.heap.size
  other : ∀ j, j < w.heap.size → v.ownBlock ≠ some j → w'.heap[j]? = w.heap[j]?

end Go.Proofs.Ytilcmkiihefkkaa
