import Derived.Test.YtilcmkiihefkkaaStrB
import Derived.Lib.BufferWrite
import Derived.Lib.UnsafeStr
set_option linter.unusedVariables false
set_option linter.unusedSimpArgs false
set_option maxRecDepth 100000
namespace Go.Proofs.Ytilcmkiihefkkaa
open Go.RowKit

theorem freeze_below {w : World} {B g n : Nat} (h : B ≤ g) : Below B w (w.freeze ⟨g, 0, none⟩ n) := by
  unfold World.freeze
  split
  · exact Below.refl _ _
  · refine ⟨rfl, rfl, rfl, by simp, ?_⟩
    intro k hk
    simp only [Array.getElem?_modify]
    rw [if_neg (by omega)]

theorem setRow_below {w : World} {B g : Nat} (cs : Array Value) (h : B ≤ g) : Below B w (w.setRow g cs) :=
  ⟨rfl, rfl, rfl, by simp, fun k hk => setRow_other w g k cs (by omega)⟩

theorem clone_text (s : ByteArray) (w1 : World) (g : Nat) (cur : Array Value) (ty : TypeId) (h1 : 1 ≤ s.size) (h2 : s.size ≤ 8000) (hg : w1.heap[g]? = some (.cells cur 5 (0, 0))) (hc : cur.size = s.size) :
    (Builtin.unsafeString_ #[171, 3] ty #[.pointer (some ⟨g, 0, none⟩), .int .i64 s.size]).run Try.prog (w1.setRow g (Lib.byteCells s.data.toList ++ List.drop s.size cur.toList).toArray) = .ok (.string s) ((w1.setRow g (Lib.byteCells s.data.toList ++ List.drop s.size cur.toList).toArray).freeze ⟨g, 0, none⟩ s.size) := by
  have hr := setRow_heap w1 g cur (Lib.byteCells s.data.toList ++ List.drop s.size cur.toList).toArray 5 (0, 0) hg
  have hl := list_len s
  have hlen : (Lib.byteCells s.data.toList ++ List.drop s.size cur.toList).toArray.size = s.size := by simp [Lib.byteCells_length]; omega
  have := Lib.run_unsafeString_row (P := Try.prog) (w1.setRow g (Lib.byteCells s.data.toList ++ List.drop s.size cur.toList).toArray) 171 3 ty 5 Try.underlying171 (by kernel_rfl) g s.size (by unfold World.shape?; rw [hr]; simp only [hlen]) s.data.toList (by intro h; rw [h] at hl; simp at hl; omega) (by omega) (by omega) (by
    intro j x hj
    rw [Addr.add_lit, Nat.zero_add]
    refine cell_at hr ?_
    have hjl : j < s.data.toList.length := by
      rcases Nat.lt_or_ge j s.data.toList.length with h | h
      · exact h
      · rw [List.getElem?_eq_none h] at hj; exact absurd hj (by simp)
    rw [List.getElem?_toArray, List.getElem?_append_left (by rw [Lib.byteCells_length]; exact hjl)]
    unfold Lib.byteCells
    rw [List.getElem?_map, hj]
    rfl)
  rw [hl, list_mk] at this
  exact this

set_option maxRecDepth 100000 in
set_option maxHeartbeats 1000000 in
theorem clone_any (s : ByteArray) (w : World) (h1 : 1 ≤ s.size) (h2 : s.size ≤ 8000) :
    Calls Try.prog 88 #[.string s] w fun e w' => e = .returned (.string s) ∧ Below w.heap.size w w' := by
  obtain ⟨i0, hi, hz0, hz1, hz2⟩ := info_parts Try.info5
  have c0 : (s.size : Int) ≠ 0 := by omega
  have c1 : (0 : Int) < s.size := by omega
  go_enter Try.func88, Try.ntmps88
  go_wp2_with (at_make; refine wpList_make_full _ rfl _ _ 72 rfl w.heap.size 5 i0 (.int .u8 0) 1 Try.underlying72 hi hz0 hz1 .i64 .i64 s.size s.size s.size rfl rfl rfl rfl (by rw [hz2]; omega) (by unfold maxLen; omega) (by simp) ?_; intro w1 hown hgrow; obtain ⟨cur, hg, hc⟩ : ∃ cur, w1.heap[w.heap.size]? = some (.cells cur 5 (0, 0)) ∧ cur.size = s.size := (by
    rcases hown.2 with ⟨h, _⟩ | ⟨g, cap, cur, h, _, hg, _, _, hc, _⟩
    · simp at h
    · simp only [Value.slice.injEq, Option.some.injEq, Addr.mk.injEq, and_true, true_and] at h
      obtain ⟨rfl, rfl⟩ := h
      exact ⟨cur, hg, by simpa using hc⟩); have hcp := fun ty => Lib.run_copy_row_string (P := Try.prog) w1 72 9 ty 5 w.heap.size 0 s.size s.size s cur 5 Try.underlying72 (by rw [hi]; simp [hz1]) hg (Nat.le_refl _) (by omega); simp only [List.take_zero, List.nil_append, Nat.zero_add] at hcp; have hus := fun ty => clone_text s w1 w.heap.size cur ty h1 h2 hg hc)
  go_ret
  refine ⟨rfl, ?_⟩
  have hb := (Below.refl w.heap.size w).grown hgrow (Nat.le_refl _) (fun k hk => by cases hk)
  exact (hb.trans (setRow_below _ (Nat.le_refl _))).trans (freeze_below (Nat.le_refl _))

set_option maxRecDepth 100000 in
set_option maxHeartbeats 1000000 in
theorem sclone_any (s : ByteArray) (w : World) (h1 : 1 ≤ s.size) (h2 : s.size ≤ 8000) :
    Calls Try.prog 77 #[.string s] w fun e w' => e = .returned (.string s) ∧ Below w.heap.size w w' := by
  go_enter Try.func77, Try.ntmps77
  go_wp2_with (go_at_call 88; refine (clone_any s _ h1 h2).mono ?_; rintro e w' ⟨rfl, hb⟩)
  go_ret
  exact ⟨rfl, hb⟩

end Go.Proofs.Ytilcmkiihefkkaa
