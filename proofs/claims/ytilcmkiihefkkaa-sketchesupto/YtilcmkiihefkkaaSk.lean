import Derived.Test.YtilcmkiihefkkaaBookC
import Derived.Test.YtilcmkiihefkkaaBookD
import Derived.Test.YtilcmkiihefkkaaRefD
set_option linter.unusedVariables false
set_option linter.unusedSimpArgs false
set_option maxRecDepth 100000
namespace Go.Proofs.Ytilcmkiihefkkaa
open Go.RowKit

theorem OwnR.mono {w : World} {base base' : Nat} {e : TypeId} {size : Nat} {v : Value} {n : Nat} {xs : List Value} (h : OwnR w base e size v n xs) (hb : base' ≤ base) : OwnR w base' e size v n xs := by
  obtain ⟨h0, h⟩ := h
  refine ⟨h0, ?_⟩
  rcases h with ⟨rfl, rfl⟩ | ⟨g, o, cap, cur, rfl, h1, h2⟩
  · exact Or.inl ⟨rfl, rfl⟩
  · exact Or.inr ⟨g, o, cap, cur, rfl, by omega, h2⟩

theorem BkI.below {w0 w : World} {base Bb k n c B : Nat} {v0 wv0 lv wv : Value} {E : List (Value × Int)} {vs : List Value} (h : BkI w0 base Bb k n v0 wv0 E vs c lv wv w) (hB : B ≤ Bb) (hw : B ≤ w0.heap.size) (hv : ∀ g, v0.ownBlock = some g → B ≤ g) (hwv : ∀ g, wv0.ownBlock = some g → B ≤ g) : Below B w0 w :=
  ⟨h.os, h.tape, h.output, Nat.le_of_lt h.size, fun q hq => h.other q (by omega) (by omega) (fun he => by have := hwv q he; omega) (fun he => by have := hv q he; omega)⟩

/-- all that is written down -/
def ents (vs1 vs2 : List Value) : List (Value × Int) := (vs1.map fun v => (v, ((0 : Nat) : Int))) ++ (vs2.map fun v => (v, ((4 : Nat) : Int)))

/-- both lists are written down, and looked at -/
theorem book_two {w6 w7 w8 : World} {base Bb n : Nat} {v1 v2 lv1 wv1 lv2 wv2 : Value} {vs1 vs2 : List Value} (hn : n < 1000000000) (hbase : base ≤ w6.heap.size)
    (h1 : BkI w6 base Bb 0 n v1 (.slice none 0 0) [] vs1 3 lv1 wv1 w7)
    (h2 : BkI w7 base Bb 4 n v2 wv1 (vs1.map fun v => (v, ((0 : Nat) : Int))) vs2 3 lv2 wv2 w8)
    (hv2 : ∀ g, v2.ownBlock = some g → g < w6.heap.size ∧ v1.ownBlock ≠ some g) :
    ∀ i (h : i < (ents vs1 vs2).length), ∃ n' mk : Nat, (ents vs1 vs2)[i].2 = mk ∧ mk ≤ 1000 ∧ n' < 4398046511104 ∧ OwnR w8 base 50 3 (ents vs1 vs2)[i].1 n' (wcells (marks n' mk)) := by
  intro i hi
  have hmem := List.getElem_mem hi
  generalize (ents vs1 vs2)[i] = e at *
  unfold ents at hmem
  rw [List.mem_append, List.mem_map, List.mem_map] at hmem
  rcases hmem with ⟨v, hv, rfl⟩ | ⟨v, hv, rfl⟩
  · obtain ⟨j, hj, ho, _⟩ := h1.sl v hv
    refine ⟨n + j, 0, rfl, by omega, by omega, ho.other (fun g hg hlt => ?_)⟩
    have hsz := h1.size
    refine h2.other g hlt (fun e => ?_) (fun he => ?_) (fun he => ?_)
    · subst e
      exact ho.tag (by decide) h1.book hg
    · obtain ⟨_, hh⟩ := h1.ent
      rcases hh with ⟨hz, _⟩ | ⟨g2, o2, cap2, cur2, hz, _, hb2, _⟩
      · rw [hz] at he; simp [Value.ownBlock] at he
      · rw [hz] at he
        simp only [Value.ownBlock, Option.some.injEq] at he
        subst he
        exact ho.tag (by decide) hb2 hg
    · obtain ⟨q1, q2⟩ := hv2 g he
      rcases (h1.nm v (Or.inr hv)).2 g hg with h3 | h3
      · exact q2 h3
      · omega
  · obtain ⟨j, hj, ho, _⟩ := h2.sl v hv
    exact ⟨n + j, 4, rfl, by omega, by omega, ho⟩

set_option maxRecDepth 100000 in
set_option maxHeartbeats 8000000 in
theorem sketches_bad (s : ByteArray) (k W : Int) (w : World) (hs : s.size ≤ 1048576) (h : k < 1 ∨ 12 < k ∨ W < 1 ∨ 20 < W) :
    Calls Try.prog 4 #[.string s, .int .i64 k, .int .i64 W] w fun e w' => e = .returned (.bool true) ∧ Below w.heap.size w w' := by
  have hneq := fun w => run_neq_slice_nil_any (P := Try.prog) w 40 50 none 0 0 0 0 Try.underlying40
  obtain ⟨tv, tn, htv⟩ : ∃ (tv : ByteArray) (tn : Int), (good s ∧ tv = ⟨(turnL s.data.toList).toArray⟩ ∧ tn = 0) ∨ (¬ good s ∧ tv = ⟨#[]⟩ ∧ tn = 2) := by
    by_cases hg : good s
    · exact ⟨_, _, Or.inl ⟨hg, rfl, rfl⟩⟩
    · exact ⟨_, _, Or.inr ⟨hg, rfl, rfl⟩⟩
  have HTV : Hid ((good s ∧ tv = ⟨(turnL s.data.toList).toArray⟩ ∧ tn = 0) ∨ (¬ good s ∧ tv = ⟨#[]⟩ ∧ tn = 2)) := htv
  clear htv
  go_enter Try.func4, Try.ntmps4
  go_wp2_with fail
  refine (turned_any s w (by omega)).mono ?_
  rintro e w1 ⟨h1, hb1⟩
  obtain rfl : e = .returned (.tuple #[.string tv, .int .i64 tn]) := by
    rcases h1 with ⟨hg, h⟩ | ⟨hg, h⟩ <;> rcases HTV.out with ⟨hg', rfl, rfl⟩ | ⟨hg', rfl, rfl⟩ <;> first | exact h | exact absurd hg hg' | exact absurd hg' hg
  clear h1
  go_wp2_with fail
  refine (rturned_any s _ (by omega)).mono ?_
  rintro e w1x ⟨h1, rfl⟩
  obtain rfl : e = .returned (.tuple #[.string tv, .int .i64 tn]) := by
    rcases h1 with ⟨hg, h⟩ | ⟨hg, h⟩ <;> rcases HTV.out with ⟨hg', rfl, rfl⟩ | ⟨hg', rfl, rfl⟩ <;> first | exact h | exact absurd hg hg' | exact absurd hg' hg
  clear h1
  go_wp2_with fail
  refine (rwords_bad s k W _ h).mono ?_
  rintro e w2 ⟨rfl, rfl⟩
  go_wp2_with fail
  refine (words_bad s k W _ h).mono ?_
  rintro e w3 ⟨rfl, rfl⟩
  go_wp2_with fail
  refine (words_bad s k W _ h).mono ?_
  rintro e w4 ⟨rfl, rfl⟩
  go_wp2_with fail
  refine (sameWords_nil none none 0 0 _).mono ?_
  rintro e w5 ⟨rfl, m5, rfl⟩
  go_wp2_with fail
  refine (sameWords_nil none none 0 0 _).mono ?_
  rintro e w5' ⟨rfl, m6, rfl⟩
  have HBW : Hid (Below w.heap.size w w4) := hb1
  clear hb1
  go_wp2_with fail
  refine (own_any w4.heap.size 0 0 ([] : List W3) rfl [] rfl w.heap.size (.slice none 0 0) (.slice none 0 0) _ (by omega) (by omega) (by have := HBW.out.size; simp; omega) (heap_alloc_new (w4.drewN (m5 + m6)) _) (OwnR.nil _ _ _ _) (OwnR.nil _ _ _ _)).mono ?_
  rintro e w7 ⟨rfl, vs1, lv1, wv1, hl1, hb7⟩
  have HB7 : Hid (BkI ((w4.drewN (m5 + m6)).alloc (.cells #[.slice none 0 0, .slice none 0 0, .slice none 0 0, .slice none 0 0, .slice none 0 0] 34)) w.heap.size w4.heap.size 0 0 (.slice none 0 0) (.slice none 0 0) [] vs1 3 lv1 wv1 w7) := hb7
  have HL1 : Hid (vs1.length = 4) := hl1
  have HE7 : Hid (OwnR w7 w.heap.size 82 2 wv1 4 (ecells (vs1.map fun v => (v, ((0 : Nat) : Int))))) := by
    have := hb7.ent
    simp only [List.length_nil, Nat.zero_add, List.nil_append, hl1] at this
    exact this
  have HO7 : Hid (OwnR w7 w.heap.size 50 3 (.slice none 0 0) 0 (wcells ([] : List W3))) := OwnR.nil _ _ _ _
  have HS7 : Hid (w4.heap.size + 1 < w7.heap.size) := by show _ < _; have := hb7.size; simpa using this
  clear hb7 hl1
  go_wp2_with fail
  refine (own_any w4.heap.size 4 0 ([] : List W3) rfl (vs1.map fun v => (v, ((0 : Nat) : Int))) (by rw [List.length_map]; exact HL1.out) w.heap.size (.slice none 0 0) wv1 w7 (by omega) (by omega) (by have := HS7.out; have := HBW.out.size; omega) HB7.out.book HE7.out HO7.out).mono ?_
  rintro e w8 ⟨rfl, vs2, lv2, wv2, hl2, hb8⟩
  have HB8 : Hid (BkI w7 w.heap.size w4.heap.size 4 0 (.slice none 0 0) wv1 (vs1.map fun v => (v, ((0 : Nat) : Int))) vs2 3 lv2 wv2 w8) := hb8
  have HL2 : Hid (vs2.length = 4) := hl2
  clear hb8 hl2
  go_wp2_with fail
  have hle : (ents vs1 vs2).length = 8 := by unfold ents; rw [List.length_append, List.length_map, List.length_map, HL1.out, HL2.out]
  refine (looks_any w4.heap.size w.heap.size (ents vs1 vs2) wv2 w8 (by omega) HB8.out.book (by
    have := HB8.out.ent
    rw [List.length_map, HL1.out, HL2.out] at this
    rw [hle]
    exact this) (book_two (by omega) (by have := HBW.out.size; simp; omega) HB7.out HB8.out (fun g hg => by simp [Value.ownBlock] at hg))).mono ?_
  rintro e w9 ⟨rfl, hb9⟩
  clear hle
  go_wp2
  go_ret
  refine ⟨rfl, ?_⟩
  have hA : Below w.heap.size w ((w4.drewN (m5 + m6)).alloc (.cells #[.slice none 0 0, .slice none 0 0, .slice none 0 0, .slice none 0 0, .slice none 0 0] 34)) := by
    have := HBW.out.alloc HBW.out.size (.cells #[.slice none 0 0, .slice none 0 0, .slice none 0 0, .slice none 0 0, .slice none 0 0] 34)
    exact ⟨this.os, this.tape, this.output, this.size, this.block⟩
  have hB : Below w.heap.size ((w4.drewN (m5 + m6)).alloc (.cells #[.slice none 0 0, .slice none 0 0, .slice none 0 0, .slice none 0 0, .slice none 0 0] 34)) w7 := HB7.out.below HBW.out.size hA.size (fun g hg => by simp [Value.ownBlock] at hg) (fun g hg => by simp [Value.ownBlock] at hg)
  have hC : Below w.heap.size w7 w8 := HB8.out.below HBW.out.size (hA.trans hB).size (fun g hg => (HO7.out.lt hg).1) (fun g hg => (HE7.out.lt hg).1)
  exact ((hA.trans hB).trans hC).trans (hb9.mono ((hA.trans hB).trans hC).size)

set_option maxRecDepth 100000 in
set_option maxHeartbeats 8000000 in
theorem sketches_un (s : ByteArray) (k W : Nat) (w : World) (hs : s.size ≤ 1048576) (hk1 : 1 ≤ k) (hk2 : k ≤ 12) (hW1 : 1 ≤ W) (hW2 : W ≤ 20) (hng : ¬ good s) :
    Calls Try.prog 4 #[.string s, .int .i64 k, .int .i64 W] w fun e w' => e = .returned (.bool true) ∧ Below w.heap.size w w' := by
  have hneq := fun w => run_neq_slice_nil_any (P := Try.prog) w 40 50 none 0 0 0 0 Try.underlying40
  obtain ⟨tv, tn, htv⟩ : ∃ (tv : ByteArray) (tn : Int), (good s ∧ tv = ⟨(turnL s.data.toList).toArray⟩ ∧ tn = 0) ∨ (¬ good s ∧ tv = ⟨#[]⟩ ∧ tn = 2) := by
    by_cases hg : good s
    · exact ⟨_, _, Or.inl ⟨hg, rfl, rfl⟩⟩
    · exact ⟨_, _, Or.inr ⟨hg, rfl, rfl⟩⟩
  have HTV : Hid ((good s ∧ tv = ⟨(turnL s.data.toList).toArray⟩ ∧ tn = 0) ∨ (¬ good s ∧ tv = ⟨#[]⟩ ∧ tn = 2)) := htv
  clear htv
  go_enter Try.func4, Try.ntmps4
  go_wp2_with fail
  refine (turned_any s w (by omega)).mono ?_
  rintro e w1 ⟨h1, hb1⟩
  obtain rfl : e = .returned (.tuple #[.string tv, .int .i64 tn]) := by
    rcases h1 with ⟨hg, h⟩ | ⟨hg, h⟩ <;> rcases HTV.out with ⟨hg', rfl, rfl⟩ | ⟨hg', rfl, rfl⟩ <;> first | exact h | exact absurd hg hg' | exact absurd hg' hg
  clear h1
  go_wp2_with fail
  refine (rturned_any s _ (by omega)).mono ?_
  rintro e w1x ⟨h1, rfl⟩
  obtain rfl : e = .returned (.tuple #[.string tv, .int .i64 tn]) := by
    rcases h1 with ⟨hg, h⟩ | ⟨hg, h⟩ <;> rcases HTV.out with ⟨hg', rfl, rfl⟩ | ⟨hg', rfl, rfl⟩ <;> first | exact h | exact absurd hg hg' | exact absurd hg' hg
  clear h1
  go_wp2_with fail
  have HNG : Hid (¬ good s) := hng
  clear hng
  refine (rwords_any s k W _ (by omega) hk1 hk2 hW1 hW2).mono ?_
  rintro e w2 ⟨h1, hb2⟩
  obtain rfl : e = .returned (.tuple #[.slice none 0 0, .int .i64 2]) := by
    rcases h1 with ⟨h, _⟩ | ⟨_, h⟩
    · exact absurd h HNG.out
    · exact h
  clear h1
  go_wp2_with fail
  refine (words_any s k W _ (by omega) hk1 hk2 hW1 hW2).mono ?_
  rintro e w3 ⟨h1, hb3⟩
  obtain rfl : e = .returned (.tuple #[.slice none 0 0, .int .i64 2]) := by
    rcases h1 with ⟨h, _⟩ | ⟨_, h⟩
    · exact absurd h HNG.out
    · exact h
  clear h1
  go_wp2_with fail
  refine (words_any s k W _ (by omega) hk1 hk2 hW1 hW2).mono ?_
  rintro e w4 ⟨h1, hb4⟩
  obtain rfl : e = .returned (.tuple #[.slice none 0 0, .int .i64 2]) := by
    rcases h1 with ⟨h, _⟩ | ⟨_, h⟩
    · exact absurd h HNG.out
    · exact h
  clear h1
  go_wp2_with fail
  refine (sameWords_nil none none 0 0 _).mono ?_
  rintro e w5 ⟨rfl, m5, rfl⟩
  go_wp2_with fail
  refine (sameWords_nil none none 0 0 _).mono ?_
  rintro e w5' ⟨rfl, m6, rfl⟩
  have HBW : Hid (Below w.heap.size w w4) := ((hb1.trans (hb2.mono hb1.size)).trans (hb3.mono (Nat.le_trans hb1.size hb2.size))).trans (hb4.mono (Nat.le_trans hb1.size (Nat.le_trans hb2.size hb3.size)))
  clear hb1 hb2 hb3 hb4
  go_wp2_with fail
  refine (own_any w4.heap.size 0 0 ([] : List W3) rfl [] rfl w.heap.size (.slice none 0 0) (.slice none 0 0) _ (by omega) (by omega) (by have := HBW.out.size; simp; omega) (heap_alloc_new (w4.drewN (m5 + m6)) _) (OwnR.nil _ _ _ _) (OwnR.nil _ _ _ _)).mono ?_
  rintro e w7 ⟨rfl, vs1, lv1, wv1, hl1, hb7⟩
  have HB7 : Hid (BkI ((w4.drewN (m5 + m6)).alloc (.cells #[.slice none 0 0, .slice none 0 0, .slice none 0 0, .slice none 0 0, .slice none 0 0] 34)) w.heap.size w4.heap.size 0 0 (.slice none 0 0) (.slice none 0 0) [] vs1 3 lv1 wv1 w7) := hb7
  have HL1 : Hid (vs1.length = 4) := hl1
  have HE7 : Hid (OwnR w7 w.heap.size 82 2 wv1 4 (ecells (vs1.map fun v => (v, ((0 : Nat) : Int))))) := by
    have := hb7.ent
    simp only [List.length_nil, Nat.zero_add, List.nil_append, hl1] at this
    exact this
  have HO7 : Hid (OwnR w7 w.heap.size 50 3 (.slice none 0 0) 0 (wcells ([] : List W3))) := OwnR.nil _ _ _ _
  have HS7 : Hid (w4.heap.size + 1 < w7.heap.size) := by show _ < _; have := hb7.size; simpa using this
  clear hb7 hl1
  go_wp2_with fail
  refine (own_any w4.heap.size 4 0 ([] : List W3) rfl (vs1.map fun v => (v, ((0 : Nat) : Int))) (by rw [List.length_map]; exact HL1.out) w.heap.size (.slice none 0 0) wv1 w7 (by omega) (by omega) (by have := HS7.out; have := HBW.out.size; omega) HB7.out.book HE7.out HO7.out).mono ?_
  rintro e w8 ⟨rfl, vs2, lv2, wv2, hl2, hb8⟩
  have HB8 : Hid (BkI w7 w.heap.size w4.heap.size 4 0 (.slice none 0 0) wv1 (vs1.map fun v => (v, ((0 : Nat) : Int))) vs2 3 lv2 wv2 w8) := hb8
  have HL2 : Hid (vs2.length = 4) := hl2
  clear hb8 hl2
  go_wp2_with fail
  have hle : (ents vs1 vs2).length = 8 := by unfold ents; rw [List.length_append, List.length_map, List.length_map, HL1.out, HL2.out]
  refine (looks_any w4.heap.size w.heap.size (ents vs1 vs2) wv2 w8 (by omega) HB8.out.book (by
    have := HB8.out.ent
    rw [List.length_map, HL1.out, HL2.out] at this
    rw [hle]
    exact this) (book_two (by omega) (by have := HBW.out.size; simp; omega) HB7.out HB8.out (fun g hg => by simp [Value.ownBlock] at hg))).mono ?_
  rintro e w9 ⟨rfl, hb9⟩
  clear hle
  go_wp2
  go_ret
  refine ⟨rfl, ?_⟩
  have hA : Below w.heap.size w ((w4.drewN (m5 + m6)).alloc (.cells #[.slice none 0 0, .slice none 0 0, .slice none 0 0, .slice none 0 0, .slice none 0 0] 34)) := by
    have := HBW.out.alloc HBW.out.size (.cells #[.slice none 0 0, .slice none 0 0, .slice none 0 0, .slice none 0 0, .slice none 0 0] 34)
    exact ⟨this.os, this.tape, this.output, this.size, this.block⟩
  have hB : Below w.heap.size ((w4.drewN (m5 + m6)).alloc (.cells #[.slice none 0 0, .slice none 0 0, .slice none 0 0, .slice none 0 0, .slice none 0 0] 34)) w7 := HB7.out.below HBW.out.size hA.size (fun g hg => by simp [Value.ownBlock] at hg) (fun g hg => by simp [Value.ownBlock] at hg)
  have hC : Below w.heap.size w7 w8 := HB8.out.below HBW.out.size (hA.trans hB).size (fun g hg => (HO7.out.lt hg).1) (fun g hg => (HE7.out.lt hg).1)
  exact ((hA.trans hB).trans hC).trans (hb9.mono ((hA.trans hB).trans hC).size)

set_option maxRecDepth 100000 in
set_option maxHeartbeats 8000000 in
theorem sketches_ok (s : ByteArray) (k W : Nat) (w : World) (hs : s.size ≤ 1048576) (hk1 : 1 ≤ k) (hk2 : k ≤ 12) (hW1 : 1 ≤ W) (hW2 : W ≤ 20) (hg : good s) :
    Calls Try.prog 4 #[.string s, .int .i64 k, .int .i64 W] w fun e w' => e = .returned (.bool true) ∧ Below w.heap.size w w' := by
  have hneq := fun w => run_neq_slice_nil_any (P := Try.prog) w 40 50 none 0 0 0 0 Try.underlying40
  obtain ⟨tv, tn, htv⟩ : ∃ (tv : ByteArray) (tn : Int), (good s ∧ tv = ⟨(turnL s.data.toList).toArray⟩ ∧ tn = 0) ∨ (¬ good s ∧ tv = ⟨#[]⟩ ∧ tn = 2) := by
    by_cases hg : good s
    · exact ⟨_, _, Or.inl ⟨hg, rfl, rfl⟩⟩
    · exact ⟨_, _, Or.inr ⟨hg, rfl, rfl⟩⟩
  have HTV : Hid ((good s ∧ tv = ⟨(turnL s.data.toList).toArray⟩ ∧ tn = 0) ∨ (¬ good s ∧ tv = ⟨#[]⟩ ∧ tn = 2)) := htv
  clear htv
  go_enter Try.func4, Try.ntmps4
  go_wp2_with fail
  refine (turned_any s w (by omega)).mono ?_
  rintro e w1 ⟨h1, hb1⟩
  obtain rfl : e = .returned (.tuple #[.string tv, .int .i64 tn]) := by
    rcases h1 with ⟨hg, h⟩ | ⟨hg, h⟩ <;> rcases HTV.out with ⟨hg', rfl, rfl⟩ | ⟨hg', rfl, rfl⟩ <;> first | exact h | exact absurd hg hg' | exact absurd hg' hg
  clear h1
  go_wp2_with fail
  refine (rturned_any s _ (by omega)).mono ?_
  rintro e w1x ⟨h1, rfl⟩
  obtain rfl : e = .returned (.tuple #[.string tv, .int .i64 tn]) := by
    rcases h1 with ⟨hg, h⟩ | ⟨hg, h⟩ <;> rcases HTV.out with ⟨hg', rfl, rfl⟩ | ⟨hg', rfl, rfl⟩ <;> first | exact h | exact absurd hg hg' | exact absurd hg' hg
  clear h1
  go_wp2_with fail
  have HG : Hid (good s) := hg
  obtain ⟨M, hM⟩ : ∃ M, M = (pkRun k W (nums s.data.toList) (s.size + 1 - k)).M := ⟨_, rfl⟩
  have HM : Hid (M = (pkRun k W (nums s.data.toList) (s.size + 1 - k)).M) := hM
  have HGL : Hid (∀ i, i < s.data.toList.length → 0 ≤ numb (s.data.toList.getD i 0)) := good_getD (good_list hg)
  have hML : M.length ≤ 1048576 := by
    have h1 := (scRun_bounds k W hk1 hk2 s.data.toList HGL.out s.data.toList.length (Nat.le_refl _)).M
    rw [wordsW k W hk1 hk2 s.data.toList HGL.out, show s.data.toList.length = s.size from Array.length_toList, ← hM] at h1
    omega
  clear hM hg
  refine (rwords_any s k W w1x (by omega) hk1 hk2 hW1 hW2).mono ?_
  rintro e w2 ⟨h1, hbw2⟩
  obtain ⟨wv, rfl, hw⟩ : ∃ pv, e = .returned (.tuple #[pv, .int .i64 0]) ∧ OwnR w2 w1x.heap.size 50 3 pv M.length (wcells M) := by
    rcases h1 with ⟨_, pv, h, ho⟩ | ⟨h, _⟩
    · rw [← HM.out] at ho
      exact ⟨pv, h, ho⟩
    · exact absurd HG.out h
  clear h1
  go_wp2_with fail
  refine (words_any s k W w2 (by omega) hk1 hk2 hW1 hW2).mono ?_
  rintro e w3 ⟨h1, hbw3⟩
  obtain ⟨v1, rfl, h1o⟩ : ∃ pv, e = .returned (.tuple #[pv, .int .i64 0]) ∧ OwnR w3 w2.heap.size 50 3 pv M.length (wcells M) := by
    rcases h1 with ⟨_, pv, h, ho⟩ | ⟨h, _⟩
    · have e1 := wordsW k W hk1 hk2 s.data.toList HGL.out
      rw [show s.data.toList.length = s.size from Array.length_toList] at e1
      rw [e1] at ho
      rw [← HM.out] at ho
      exact ⟨pv, h, ho⟩
    · exact absurd HG.out h
  clear h1
  go_wp2_with fail
  refine (words_any s k W w3 (by omega) hk1 hk2 hW1 hW2).mono ?_
  rintro e w4 ⟨h1, hbw4⟩
  obtain ⟨v2, rfl, h2o⟩ : ∃ pv, e = .returned (.tuple #[pv, .int .i64 0]) ∧ OwnR w4 w3.heap.size 50 3 pv M.length (wcells M) := by
    rcases h1 with ⟨_, pv, h, ho⟩ | ⟨h, _⟩
    · have e1 := wordsW k W hk1 hk2 s.data.toList HGL.out
      rw [show s.data.toList.length = s.size from Array.length_toList] at e1
      rw [e1] at ho
      rw [← HM.out] at ho
      exact ⟨pv, h, ho⟩
    · exact absurd HG.out h
  clear h1
  go_wp2_with fail
  have hw4 : OwnR w4 w1x.heap.size 50 3 wv M.length (wcells M) := (hw.other (fun g hg hlt => hbw3.block g hlt)).other (fun g hg hlt => hbw4.block g hlt)
  have h14 : OwnR w4 w2.heap.size 50 3 v1 M.length (wcells M) := h1o.other (fun g hg hlt => hbw4.block g hlt)
  refine (sameWords_any M w2.heap.size w1x.heap.size v1 wv _ (by omega) h14 hw4).mono ?_
  rintro e w5 ⟨rfl, m5, rfl⟩
  go_wp2_with fail
  refine (sameWords_any M w3.heap.size w1x.heap.size v2 wv (w4.drewN m5) (by omega) (h2o.other (fun g _ _ => rfl)) (hw4.other (fun g _ _ => rfl))).mono ?_
  rintro e w5' ⟨rfl, m6, rfl⟩
  have HBW : Hid (Below w.heap.size w w4) := ((hb1.trans (hbw2.mono hb1.size)).trans (hbw3.mono (Nat.le_trans hb1.size hbw2.size))).trans (hbw4.mono (Nat.le_trans hb1.size (Nat.le_trans hbw2.size hbw3.size)))
  have HO1 : Hid (OwnR w4 w.heap.size 50 3 v1 M.length (wcells M)) := h14.mono (Nat.le_trans hb1.size hbw2.size)
  have HO2 : Hid (OwnR w4 w.heap.size 50 3 v2 M.length (wcells M)) := h2o.mono (Nat.le_trans hb1.size (Nat.le_trans hbw2.size hbw3.size))
  have HDI : Hid (∀ g, v2.ownBlock = some g → g < w4.heap.size ∧ v1.ownBlock ≠ some g) := fun g hg => ⟨(h2o.lt hg).2, fun he => by have a := (h1o.lt he).2; have b := (h2o.lt hg).1; omega⟩
  clear hb1 hbw2 hbw3 hbw4 hw4 h14 h2o h1o hw
  go_wp2_with fail
  refine (own_any w4.heap.size 0 M.length M rfl [] rfl w.heap.size v1 (.slice none 0 0) _ (by omega) (by omega) (by have := HBW.out.size; simp; omega) (heap_alloc_new (w4.drewN (m5 + m6)) _) (OwnR.nil _ _ _ _) (HO1.out.other (w' := (w4.drewN (m5 + m6)).alloc (.cells #[.slice none 0 0, .slice none 0 0, .slice none 0 0, .slice none 0 0, .slice none 0 0] 34)) (fun g _ hlt => Below.heap_alloc (w4.drewN (m5 + m6)) _ _ hlt))).mono ?_
  rintro e w7 ⟨rfl, vs1, lv1, wv1, hl1, hb7⟩
  have HB7 : Hid (BkI ((w4.drewN (m5 + m6)).alloc (.cells #[.slice none 0 0, .slice none 0 0, .slice none 0 0, .slice none 0 0, .slice none 0 0] 34)) w.heap.size w4.heap.size 0 M.length v1 (.slice none 0 0) [] vs1 3 lv1 wv1 w7) := hb7
  have HL1 : Hid (vs1.length = 4) := hl1
  have HE7 : Hid (OwnR w7 w.heap.size 82 2 wv1 4 (ecells (vs1.map fun v => (v, ((0 : Nat) : Int))))) := by
    have := hb7.ent
    simp only [List.length_nil, Nat.zero_add, List.nil_append, hl1] at this
    exact this
  have HO7 : Hid (OwnR w7 w.heap.size 50 3 v2 M.length (wcells M)) := HO2.out.other (fun g hg hlt => (hb7.other g (by simp; omega) (by omega) (fun he => by simp [Value.ownBlock] at he) (HDI.out g hg).2).trans (Below.heap_alloc (w4.drewN (m5 + m6)) _ _ hlt))
  have HS7 : Hid (w4.heap.size + 1 < w7.heap.size) := by show _ < _; have := hb7.size; simpa using this
  clear hb7 hl1
  go_wp2_with fail
  refine (own_any w4.heap.size 4 M.length M rfl (vs1.map fun v => (v, ((0 : Nat) : Int))) (by rw [List.length_map]; exact HL1.out) w.heap.size v2 wv1 w7 (by omega) (by omega) (by have := HS7.out; have := HBW.out.size; omega) HB7.out.book HE7.out HO7.out).mono ?_
  rintro e w8 ⟨rfl, vs2, lv2, wv2, hl2, hb8⟩
  have HB8 : Hid (BkI w7 w.heap.size w4.heap.size 4 M.length v2 wv1 (vs1.map fun v => (v, ((0 : Nat) : Int))) vs2 3 lv2 wv2 w8) := hb8
  have HL2 : Hid (vs2.length = 4) := hl2
  clear hb8 hl2
  go_wp2_with fail
  have hle : (ents vs1 vs2).length = 8 := by unfold ents; rw [List.length_append, List.length_map, List.length_map, HL1.out, HL2.out]
  refine (looks_any w4.heap.size w.heap.size (ents vs1 vs2) wv2 w8 (by omega) HB8.out.book (by
    have := HB8.out.ent
    rw [List.length_map, HL1.out, HL2.out] at this
    rw [hle]
    exact this) (book_two (by omega) (by have := HBW.out.size; simp; omega) HB7.out HB8.out (fun g hg => ⟨by have := (HDI.out g hg).1; simp; omega, (HDI.out g hg).2⟩))).mono ?_
  rintro e w9 ⟨rfl, hb9⟩
  clear hle
  go_wp2
  go_ret
  refine ⟨rfl, ?_⟩
  have hA : Below w.heap.size w ((w4.drewN (m5 + m6)).alloc (.cells #[.slice none 0 0, .slice none 0 0, .slice none 0 0, .slice none 0 0, .slice none 0 0] 34)) := by
    have := HBW.out.alloc HBW.out.size (.cells #[.slice none 0 0, .slice none 0 0, .slice none 0 0, .slice none 0 0, .slice none 0 0] 34)
    exact ⟨this.os, this.tape, this.output, this.size, this.block⟩
  have hB : Below w.heap.size ((w4.drewN (m5 + m6)).alloc (.cells #[.slice none 0 0, .slice none 0 0, .slice none 0 0, .slice none 0 0, .slice none 0 0] 34)) w7 := HB7.out.below HBW.out.size hA.size (fun g hg => (HO1.out.lt hg).1) (fun g hg => by simp [Value.ownBlock] at hg)
  have hC : Below w.heap.size w7 w8 := HB8.out.below HBW.out.size (hA.trans hB).size (fun g hg => (HO7.out.lt hg).1) (fun g hg => (HE7.out.lt hg).1)
  exact ((hA.trans hB).trans hC).trans (hb9.mono ((hA.trans hB).trans hC).size)

theorem sketches_any (s : ByteArray) (k W : Int) (w : World) (hs : s.size ≤ 1048576) :
    Calls Try.prog 4 #[.string s, .int .i64 k, .int .i64 W] w fun e w' => e = .returned (.bool true) ∧ Below w.heap.size w w' := by
  by_cases h : k < 1 ∨ 12 < k ∨ W < 1 ∨ 20 < W
  · exact sketches_bad s k W w hs h
  · obtain ⟨k', rfl⟩ : ∃ k' : Nat, k = k' := ⟨k.toNat, by omega⟩
    obtain ⟨W', rfl⟩ : ∃ W' : Nat, W = W' := ⟨W.toNat, by omega⟩
    by_cases hg : good s
    · exact sketches_ok s k' W' w hs (by omega) (by omega) (by omega) (by omega) hg
    · exact sketches_un s k' W' w hs (by omega) (by omega) (by omega) (by omega) hg

end Go.Proofs.Ytilcmkiihefkkaa
