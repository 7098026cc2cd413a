import Derived.Test.YtilcmkiihefkkaaDoorOwnB
import Derived.Deep.RegionHeld
set_option linter.unusedVariables false
set_option linter.unusedSimpArgs false
set_option maxRecDepth 100000
namespace Go.Proofs.YtilcmkiihefkkaaDoor
open Go.RowKit Go.Shelf Go.Lib

section
variable {P : Program} {ops : Array Oper} {Q : Exit → Act → World → Prop} {md : Region.Mode} {S : World → Prop} {L : Nat}

/-- whichever operation comes up; S holds behind each, but the last one -/
def wpAnyX (P : Program) (md : Region.Mode) (ops : Array Oper) (Q : Exit → Act → World → Prop) (S : World → Prop) (L : Nat) : Nat → Array Bool → Act → World → Prop
  | 0, listed, a, w => Region.ready md ops listed = [] ∧ Q .normal a w
  | fuel + 1, listed, a, w =>
    (Region.ready md ops listed = [] → Q .normal a w) ∧
    ∀ i ∈ Region.ready md ops listed, wpOp P ops Q i (fun a' w' => (i ≠ L → S w') ∧ wpAnyX P md ops Q S L fuel (listed.setIfInBounds i true) a' w') a w

theorem wpAny_of_X : ∀ (fuel : Nat) (listed : Array Bool) (a : Act) (w : World), wpAnyX P md ops Q S L fuel listed a w → wpAny P md ops Q fuel listed a w
  | 0, _, _, _, h => h
  | fuel + 1, _, _, _, h => ⟨h.1, fun i hi => wpOp_mono (fun a' w' h' => wpAny_of_X fuel _ a' w' h'.2) (h.2 i hi)⟩

/-- does the last one wait for number i? -/
def waitsOn (md : Region.Mode) (ops : Array Oper) (L i : Nat) : Bool :=
  match ops[L]? with
  | some o => o.after.any fun e => Region.binds md e && e.on == i
  | none => false

theorem wpAnyX_first {i : Nat} {oi : Oper} {v : Value} (hi : ops[i]? = some oi) (hsel : ∀ (j : Nat) (o : Oper) cs b, ops[j]? = some o → o.op ≠ .select cs b)
    (hQ : ∀ c a w, Q (.panic c) (a.put oi.dst v) w → Q (.panic c) a w) (hL : (waitsOn md ops L i || Nat.ble ops.size L) = true) :
    ∀ (fuel : Nat) (listed : Array Bool) (a : Act) (w : World),
      (∀ j oj, ops[j]? = some oj → j ≠ i → listed.getD j true = false → (∀ e ∈ oj.after, Region.binds md e = true → e.on ≠ i) → oi.apart ops oj = true) →
      i ∈ Region.ready md ops listed → YieldsIf P ops S oi v a → S w →
      wpAnyX P md ops Q S L fuel (listed.setIfInBounds i true) (a.put oi.dst v) w → wpAnyX P md ops Q S L (fuel + 1) listed a w := by
  intro fuel
  induction fuel with
  | zero =>
    intro listed a w _ hr hy hS H
    refine ⟨fun h => (by rw [h] at hr; cases hr), fun j hj => ?_⟩
    by_cases hji : j = i
    · subst hji; exact hy.wpOp hi hS ⟨fun _ => hS, H⟩
    · have := ready_mono hj hji
      rw [H.1] at this
      cases this
  | succ fuel ih =>
    intro listed a w hfree hr hy hS H
    refine ⟨fun h => (by rw [h] at hr; cases hr), fun j hj => ?_⟩
    by_cases hji : j = i
    · subst hji; exact hy.wpOp hi hS ⟨fun _ => hS, H⟩
    · have h1 := H.2 j (ready_mono hj hji)
      obtain ⟨hjun, oj, hoj, hall⟩ := mem_ready.1 hj
      have hnot : ∀ e ∈ oj.after, Region.binds md e = true → e.on ≠ i := fun e he hb heq => by
        have h1 := hall e he hb
        have h0 := (mem_ready.1 hr).1
        rw [heq] at h1
        rcases Nat.lt_or_ge i listed.size with h' | h'
        · simp [h'] at h0 h1; rw [h0] at h1; cases h1
        · simp [Array.getElem?_eq_none h'] at h1
      have hjL : j ≠ L := by
        intro he
        subst he
        have hsz : Nat.ble ops.size j = false := by
          rw [Bool.eq_false_iff]
          intro hb
          have hb := Nat.le_of_ble_eq_true hb
          rw [Array.getElem?_eq_none hb] at hoj
          cases hoj
        rw [hsz, Bool.or_false] at hL
        unfold waitsOn at hL
        rw [hoj] at hL
        simp only at hL
        obtain ⟨e, he, hb⟩ := Array.any_eq_true'.1 hL
        simp only [Bool.and_eq_true, beq_iff_eq] at hb
        exact hnot e he hb.1 hb.2
      have h2 := wpOp_putIf hoj (hfree j oj hoj hji hjun hnot) (fun cs b => hsel i oi cs b hi) (fun cs b => hsel j oj cs b hoj) hQ hy h1
      have hfree' : ∀ k ok, ops[k]? = some ok → k ≠ i → (listed.setIfInBounds j true).getD k true = false →
          (∀ e ∈ ok.after, Region.binds md e = true → e.on ≠ i) → oi.apart ops ok = true := fun k ok hk hki hun hno => by
        refine hfree k ok hk hki ?_ hno
        by_cases hjk : j = k
        · subst hjk; exact hjun
        · rw [getD_set_ne true hjk] at hun; exact hun
      refine wpOp_mono (fun a' w' h3 => ⟨h3.2.1, ih (listed.setIfInBounds j true) a' w' hfree' (ready_mono hr (Ne.symm hji)) h3.1 (h3.2.1 hjL) ?_⟩) h2
      rw [Array.setIfInBounds_comm _ _ hji]
      exact h3.2.2

/-- take number i first -/
theorem wpAnyX_take {i : Nat} {oi : Oper} {v : Value} {fuel : Nat} {listed : Array Bool} {a : Act} {w : World} (hi' : ops.toList[i]? = some oi)
    (hs : Region.noSelect ops = true) (hf : Region.free md ops listed i = true) (hr : (Region.ready md ops listed).contains i = true) (hL : (waitsOn md ops L i || Nat.ble ops.size L) = true)
    (hQ : ∀ c a w, Q (.panic c) (a.put oi.dst v) w → Q (.panic c) a w) (hy : YieldsIf P ops S oi v a) (hS : S w)
    (h : wpAnyX P md ops Q S L fuel (listed.setIfInBounds i true) (a.put oi.dst v) w) : wpAnyX P md ops Q S L (fuel + 1) listed a w :=
  have hi : ops[i]? = some oi := by simpa using hi'
  wpAnyX_first hi (Region.noSelect_spec hs) hQ hL fuel listed a w (Region.free_spec hi hf) (by simpa using hr) hy hS h

/-- number i alone may come up -/
theorem wpAnyX_step {i : Nat} {o : Oper} {fuel : Nat} {listed : Array Bool} {a : Act} {w : World} (hr : Region.ready md ops listed = [i]) (ho' : ops.toList[i]? = some o) (hiL : (i == L) = false)
    (h : ∀ K : Act → World → Prop, Shut (∀ a' w', S w' → wpAnyX P md ops Q S L fuel (listed.setIfInBounds i true) a' w' → K a' w') → if Region.wanted o (yielded ops a.tmps) = true then Oper.wp P o a w K Q else K (a.put o.dst undef) w) : wpAnyX P md ops Q S L (fuel + 1) listed a w := by
  have ho : ops[i]? = some o := by simpa using ho'
  have hne : i ≠ L := by simpa using hiL
  refine ⟨fun h0 => (by rw [hr] at h0; cases h0), fun j hj => ?_⟩
  rw [hr] at hj
  obtain rfl : j = i := by simpa using hj
  have := h (fun a' w' => (j ≠ L → S w') ∧ wpAnyX P md ops Q S L fuel (listed.setIfInBounds j true) a' w') (fun a' w' h1 h2 => ⟨fun _ => h1, h2⟩)
  unfold wpOp
  simp only [ho]
  split
  · rename_i hw
    rw [if_pos hw] at this
    exact Or.inl this
  · rename_i hw
    rw [if_neg hw] at this
    exact this

theorem wpAnyX_done {fuel : Nat} {listed : Array Bool} {a : Act} {w : World} (hd : Region.ready md ops listed = []) (h : Q .normal a w) : wpAnyX P md ops Q S L fuel listed a w := by
  cases fuel with
  | zero => exact ⟨hd, h⟩
  | succ f => exact ⟨fun _ => h, fun k hk => by rw [hd] at hk; cases hk⟩

/-- the last one -/
theorem wpAnyX_last {i : Nat} {o : Oper} {fuel : Nat} {listed : Array Bool} {a : Act} {w : World} (hr : Region.ready md ops listed = [i]) (ho' : ops.toList[i]? = some o) (hiL : (i == L) = true) (hd : Region.ready md ops (listed.setIfInBounds i true) = [])
    (h : ∀ K : Act → World → Prop, Shut (∀ a' w', Q .normal a' w' → K a' w') → if Region.wanted o (yielded ops a.tmps) = true then Oper.wp P o a w K Q else K (a.put o.dst undef) w) : wpAnyX P md ops Q S L (fuel + 1) listed a w := by
  have ho : ops[i]? = some o := by simpa using ho'
  have he : i = L := by simpa using hiL
  refine ⟨fun h0 => (by rw [hr] at h0; cases h0), fun j hj => ?_⟩
  rw [hr] at hj
  obtain rfl : j = i := by simpa using hj
  have hfin : ∀ f a' w', Q .normal a' w' → wpAnyX P md ops Q S L f (listed.setIfInBounds j true) a' w' := fun f a' w' hq => by
    cases f with
    | zero => exact ⟨hd, hq⟩
    | succ f => exact ⟨fun _ => hq, fun k hk => by rw [hd] at hk; cases hk⟩
  have := h (fun a' w' => (j ≠ L → S w') ∧ wpAnyX P md ops Q S L fuel (listed.setIfInBounds j true) a' w') (fun a' w' h1 => ⟨fun hne => absurd he hne, hfin _ _ _ h1⟩)
  unfold wpOp
  simp only [ho]
  split
  · rename_i hw
    rw [if_pos hw] at this
    exact Or.inl this
  · rename_i hw
    rw [if_neg hw] at this
    exact this

theorem wp_region_X {id : Nat} {a : Act} {w : World} (L : Nat) (S : World → Prop) (hm : P.follows .mixedOrders = true) (hS : S w.drew)
    (h : S w.drew → wpAnyX P .any ops Q S L ops.size (Array.replicate ops.size false) a w.drew) : (Code.region id ops true).wp P Q a w :=
  wp_region_any hm (wpAny_of_X _ _ _ _ (h hS))
end
theorem run_ownK {P : Program} (w : World) (t ty e : TypeId) (i : TypeInfo) (z : Value) (size bytes : Nat) (h1 : P.underlying t = some (.slice e)) (h2 : P.info? e = some i) (h3 : i.zero = some z) (h4 : i.size = size) (h5 : i.bytes = bytes) (h6 : z.cells.size = size) (h7 : 0 < size)
    (base : Nat) (v : Value) (n : Nat) (xs : List Value) (hown : OwnR w base e size v n xs)
    (ad : Addr) (c : Nat) (news : List Value) (hn : news.length = size) (hc : ∀ j u, news[j]? = some u → w.cell? (ad.add j) = some u) (h1c : ∀ u ∈ news, u.oneCell' = true)
    (b1 : n + 1 ≤ maxLen) (b2 : (n + 1) * bytes ≤ 140737488355328) (hbase : base ≤ w.heap.size) :
    ∃ g' o' cap' w', (Builtin.append_ #[t, t] ty #[v, .slice (some ad) 1 c]).run P w = .ok (.slice (some ⟨g', o', none⟩) (n + 1) cap') w' ∧ OwnR w' base e size (.slice (some ⟨g', o', none⟩) (n + 1) cap') (n + 1) (xs ++ news) ∧ AppFr w w' v g' ∧ OwnR w' base e size v n xs := by
  have hn1 : news.length = 1 * size := by omega
  obtain ⟨hl, hown⟩ := hown
  rcases hown with ⟨rfl, rfl⟩ | ⟨g, o, cap, cur, rfl, hbg, hg, hnc, hcm, hcs, hcu⟩
  · obtain rfl : xs = [] := List.eq_nil_of_length_eq_zero (by simpa using hl)
    obtain ⟨v', w', hrun, r1, r2, _⟩ := run_append_own (P := P) w w.heap.size t ty e i z size bytes h1 h2 h3 h4 h5 h6 h7 (.slice none 0 0) 0 [] (World.ownsRow_nil w _ e size) ad 1 c news hn1 hc h1c b1 b2 (Nat.le_refl _)
    rcases r1.2 with ⟨_, hz⟩ | ⟨g, cap, cur, rfl, hbg, hg, _⟩
    · exact absurd hz (by simp)
    · exact ⟨g, 0, cap, w', hrun, OwnR.of_ownsRow r1 hbase, ⟨r2.os, r2.tape, r2.output, r2.size, fun j hj _ => r2.block j hj (by simp [Value.ownBlock]), Or.inr hbg, lt_of_block hg⟩, ⟨by simp, Or.inl ⟨rfl, rfl⟩⟩⟩
  · by_cases hroom : n + 1 ≤ cap
    · subst h4
      have hfit : o + (n + 1) * i.size ≤ cur.size := Nat.le_trans (Nat.add_le_add_left (Nat.mul_le_mul_right _ hroom) o) hcs
      have hex : (n + 1) * i.size = n * i.size + i.size := by rw [Nat.add_mul, Nat.one_mul]
      have hrun := run_append_room_cells (P := P) w t ty e i h1 h2 g o n cap ad 1 c news hn1 hc h1c hroom
        (fun j hj => by rw [cell_of_row w g _ cur e (0, 0) hg]; simp; omega) (fun j _ => frozen_of_row w g _ cur e hg)
      obtain ⟨cur', q1, q2, q3, q4⟩ := heap_setCells_same g e news (o + n * i.size) w cur hg
      have ts := tape_setCells g news (o + n * i.size) w
      refine ⟨g, o, cap, _, hrun, ⟨by rw [List.length_append, hl, hn]; omega, Or.inr ⟨g, o, cap, cur', rfl, hbg, q1, hroom, hcm, by omega, ?_⟩⟩, ⟨ts.2.1, ts.1, ts.2.2.1, by rw [ts.2.2.2]; exact Nat.le_refl _, fun j _ hj => heap_setCells_other g news _ w j (fun h => hj (by simp [Value.ownBlock, h])), Or.inl rfl, lt_of_block q1⟩, ⟨hl, Or.inr ⟨g, o, cap, cur', rfl, hbg, q1, hnc, hcm, by omega, fun j u hj => (q3 _ (by
          have : j < xs.length := by
            rcases Nat.lt_or_ge j xs.length with h | h
            · exact h
            · rw [List.getElem?_eq_none h] at hj; exact absurd hj (by simp)
          omega)).trans (hcu j u hj)⟩⟩⟩
      intro j u hj
      rw [List.getElem?_append] at hj
      split at hj
      · rw [q3 _ (by omega)]; exact hcu j u hj
      · have := q4 (j - xs.length) u hj (by
          have : j - xs.length < news.length := by
            rcases Nat.lt_or_ge (j - xs.length) news.length with h | h
            · exact h
            · rw [List.getElem?_eq_none h] at hj; exact absurd hj (by simp)
          omega)
        rwa [show o + n * i.size + (j - xs.length) = o + j by omega] at this
    · obtain ⟨v', w', hrun, r1, r2⟩ := run_append_arg_grows (P := P) w t ty e i z size bytes h1 h2 h3 h4 h5 h6 h7 ⟨g, o, none⟩ n cap xs hl (fun j u hj => by rw [Addr.add_lit, cell_of_row w g _ cur e (0, 0) hg]; exact hcu j u hj) ad 1 c news hn1 hc (by omega) b1 b2
      rcases r1.2 with ⟨_, hz⟩ | ⟨g', cap', cur', rfl, hbg', hg', _⟩
      · exact absurd hz (by simp)
      · exact ⟨g', 0, cap', w', hrun, OwnR.of_ownsRow r1 hbase, ⟨r2.os, r2.tape, r2.output, r2.size, fun j hj _ => r2.block j hj (by simp), Or.inr hbg', lt_of_block hg'⟩, ⟨hl, Or.inr ⟨g, o, cap, cur, rfl, hbg, (r2.block g (lt_of_block hg) (by simp)).trans hg, hnc, hcm, hcs, hcu⟩⟩⟩

theorem step_ownK {P : Program} {ops : Array Oper} {o : Oper} {a : Act} {w : World} {K : Act → World → Prop} {Q : Exit → Act → World → Prop} {E : Prop}
    (hg : o.guard = none) (s x : Operand) (t : TypeId) (hop : o.op = Op.call { callee := Callee.builtin Builtin.append, args := #[s, x], argTypes := #[t, t] })
    (e : TypeId) (i : TypeInfo) (z : Value) (size bytes : Nat) (h1 : P.underlying t = some (.slice e)) (h2 : P.info? e = some i) (h3 : i.zero = some z) (h4 : i.size = size) (h5 : i.bytes = bytes) (h6 : z.cells.size = size) (h7 : 0 < size)
    (base : Nat) (v : Value) (n : Nat) (xs : List Value) (hs : a.eval s = v) (hown : OwnR w base e size v n xs)
    (ad : Addr) (c : Nat) (news : List Value) (hx : a.eval x = .slice (some ad) 1 c) (hn : news.length = size) (hc : ∀ j u, news[j]? = some u → w.cell? (ad.add j) = some u) (h1c : ∀ u ∈ news, u.oneCell' = true)
    (b1 : n + 1 ≤ maxLen) (b2 : (n + 1) * bytes ≤ 140737488355328) (hbase : base ≤ w.heap.size)
    (hK : ∀ g' o' cap' w', OwnR w' base e size (.slice (some ⟨g', o', none⟩) (n + 1) cap') (n + 1) (xs ++ news) → AppFr w w' v g' → OwnR w' base e size v n xs → K (a.put o.dst (.slice (some ⟨g', o', none⟩) (n + 1) cap')) w') :
    if Region.wanted o (yielded ops a.tmps) = true then Oper.wp P o a w K Q else E := by
  have hw : Region.wanted o (yielded ops a.tmps) = true := by simp [Region.wanted, hg]
  rw [if_pos hw]
  obtain ⟨g', o', cap', w', hrun, r1, r2, r3⟩ := run_ownK (P := P) w t o.type e i z size bytes h1 h2 h3 h4 h5 h6 h7 base v n xs hown ad c news hn hc h1c b1 b2 hbase
  unfold Oper.wp
  simp [execOp, hop, resolve, invoke, builtin, hs, hx, hrun, Result.andThen]
  exact hK g' o' cap' w' r1 r2 r3

theorem wpList_ownK {P : Program} (w : World) {ops : Array Oper} {rest : List Oper} {o : Oper} {a : Act} {Q : Exit → Act → World → Prop}
    (hg : o.guard = none) (s x : Operand) (t : TypeId) (hop : o.op = Op.call { callee := Callee.builtin Builtin.append, args := #[s, x], argTypes := #[t, t] })
    (e : TypeId) (i : TypeInfo) (z : Value) (size bytes : Nat) (h1 : P.underlying t = some (.slice e)) (h2 : P.info? e = some i) (h3 : i.zero = some z) (h4 : i.size = size) (h5 : i.bytes = bytes) (h6 : z.cells.size = size) (h7 : 0 < size)
    (base : Nat) (v : Value) (n : Nat) (xs : List Value) (hs : a.eval s = v) (hown : OwnR w base e size v n xs)
    (ad : Addr) (c : Nat) (news : List Value) (hx : a.eval x = .slice (some ad) 1 c) (hn : news.length = size) (hc : ∀ j u, news[j]? = some u → w.cell? (ad.add j) = some u) (h1c : ∀ u ∈ news, u.oneCell' = true)
    (b1 : n + 1 ≤ maxLen) (b2 : (n + 1) * bytes ≤ 140737488355328) (hbase : base ≤ w.heap.size)
    (hK : ∀ g' o' cap' w', OwnR w' base e size (.slice (some ⟨g', o', none⟩) (n + 1) cap') (n + 1) (xs ++ news) → AppFr w w' v g' → OwnR w' base e size v n xs → wpList P ops Q rest (a.put o.dst (.slice (some ⟨g', o', none⟩) (n + 1) cap')) w') :
    wpList P ops Q (o :: rest) a w := by
  refine wpList_plain hg fun K hK' => ?_
  obtain ⟨g', o', cap', w', hrun, r1, r2, r3⟩ := run_ownK (P := P) w t o.type e i z size bytes h1 h2 h3 h4 h5 h6 h7 base v n xs hown ad c news hn hc h1c b1 b2 hbase
  unfold Oper.wp
  simp [execOp, hop, resolve, invoke, builtin, hs, hx, hrun, Result.andThen]
  exact hK' _ _ (hK g' o' cap' w' r1 r2 r3)
theorem OwnR.tagNe {w : World} {base base2 : Nat} {e e2 : TypeId} {size size2 : Nat} {g o n cap : Nat} {v2 : Value} {n2 : Nat} {xs xs2 : List Value} (h : OwnR w base e size (.slice (some ⟨g, o, none⟩) n cap) n xs) (h2 : OwnR w base2 e2 size2 v2 n2 xs2) (hne : e ≠ e2) (he : v2.ownBlock = some g) : False := by
  rcases h.2 with ⟨h1, _⟩ | ⟨g', o', cap', cur, hv, h1, hb, _⟩
  · simp at h1
  · simp only [Value.slice.injEq, Option.some.injEq, Addr.mk.injEq, and_true, true_and] at hv
    obtain ⟨⟨rfl, rfl⟩, rfl⟩ := hv
    exact h2.tag hne hb he
end Go.Proofs.YtilcmkiihefkkaaDoor
