import Derived.Test.YtilcmkiihefkkaaSqA
set_option linter.unusedVariables false
set_option linter.unusedSimpArgs false
set_option maxRecDepth 100000
namespace Go.Proofs.Ytilcmkiihefkkaa
open Go.RowKit

theorem Try.info9 : (Try.prog.info? 9).map (fun i => (i.zero, i.size, i.bytes)) = some (some (.string ⟨#[]⟩), 1, 16) := by kernel_rfl

/-- texts, as they lie in memory -/
def tcells (L : List ByteArray) : List Value := L.map .string

theorem tcells_length (L : List ByteArray) : (tcells L).length = L.length := by simp [tcells]

theorem AppFr.below {w w' : World} {v : Value} {g' base : Nat} (h : AppFr w w' v g') (hv : ∀ g, v.ownBlock = some g → base ≤ g) (hb : base ≤ w.heap.size) : Below base w w' :=
  ⟨h.os, h.tape, h.output, h.size, fun j hj => h.other j (by omega) (fun he => by have := hv j he; omega)⟩

theorem box1_cells (W : World) (x : Value) (t : TypeId) (s : Nat) (hs : s = W.heap.size) : ∀ j u, ([x] : List Value)[j]? = some u → (W.alloc (.cells #[x] t)).cell? ((⟨s, 0, none⟩ : Addr).add j) = some u := by
  intro j u hj
  subst hs
  rw [Addr.add_lit, Nat.zero_add]
  refine cell_at (heap_alloc_new W _) ?_
  simpa using hj

theorem text_oneCell (x : ByteArray) : ∀ u ∈ ([.string x] : List Value), u.oneCell' = true := by
  intro u hu
  simp at hu
  subst hu
  rfl

/-- what is left of the lines -/
def lleft (cur : ByteArray) (l : List UInt8) : List ByteArray := (linesA cur.data.toList l).map fun l => ⟨l.toArray⟩

theorem lleft_end (s : ByteArray) (k : Nat) (h : k < s.size) (cur : ByteArray) (hc : s[k] = 10) : lleft cur (s.data.toList.drop k) = cur :: lleft ⟨#[]⟩ (s.data.toList.drop (k + 1)) := by
  have hl := list_len s
  unfold lleft
  rw [List.drop_eq_getElem_cons (by omega), linesA, if_pos (by rw [← hc]; rw [Array.getElem_toList]; rfl), List.map_cons, list_mk]

theorem lleft_go (s : ByteArray) (k : Nat) (h : k < s.size) (cur : ByteArray) (hc : s[k] ≠ 10) : lleft cur (s.data.toList.drop k) = lleft (cur ++ s.extract k (k + 1)) (s.data.toList.drop (k + 1)) := by
  have hl := list_len s
  have hk : k < s.data.toList.length := by omega
  have hg : s.data.toList[k] = s[k] := by rw [Array.getElem_toList]; rfl
  unfold lleft
  rw [List.drop_eq_getElem_cons hk, linesA, if_neg (by rw [hg]; exact hc)]
  congr 2
  rw [ByteArray.data_append, Array.toList_append, list_extract]
  congr 1
  rw [List.drop_eq_getElem_cons hk, show k + 1 - k = 1 by omega]
  rfl

set_option maxRecDepth 100000 in
set_option maxHeartbeats 2000000 in
theorem lines_any (s : ByteArray) (w : World) (hs : s.size ≤ 8000) :
    Calls Try.prog 29 #[.string s] w fun e w' => ∃ v, e = .returned v ∧ OwnR w' w.heap.size 9 1 v (linesB s).length (tcells (linesB s)) ∧ Below w.heap.size w w' := by
  obtain ⟨i0, hi, hz0, hz1, hz2⟩ := info_parts Try.info9
  go_enter Try.func29, Try.ntmps29
  go_wp2
  go_loopw [3, 4, 5] (fun v x i wx => ∃ (k : Nat) (D : List ByteArray) (cur : ByteArray), k ≤ s.size ∧ i = .int .i64 k ∧ x = .string cur ∧ cur.size ≤ k ∧ D.length ≤ k ∧ OwnR wx w.heap.size 9 1 v D.length (tcells D) ∧ D ++ lleft cur (s.data.toList.drop k) = linesB s ∧ Below w.heap.size w wx) (fun _ _ i _ => s.size - (intOf i).toNat)
  case atStart => exact ⟨0, [], ⟨#[]⟩, Nat.zero_le _, rfl, rfl, Nat.zero_le _, Nat.zero_le _, OwnR.nil _ _ _ _, rfl, Below.refl _ _⟩
  case round =>
    obtain ⟨k, D, cur, hk, rfl, rfl, hcs, hDl, hown, heq, hbel⟩ := hrel
    have HEQ : Hid (D ++ lleft cur (s.data.toList.drop k) = linesB s) := heq
    have HBL : Hid (Below w.heap.size w wr) := hbel
    have HOW : Hid (OwnR wr w.heap.size 9 1 u3 D.length (tcells D)) := hown
    obtain ⟨ao, c, hv⟩ : ∃ ao c, u3 = .slice ao D.length c := by
      rcases hown.2 with ⟨h, h0⟩ | ⟨g, o, cap, cur, h, _⟩
      · exact ⟨_, _, by rw [h, h0]⟩
      · exact ⟨_, _, h⟩
    obtain ⟨n, hn⟩ : ∃ n, n = D.length := ⟨_, rfl⟩
    have HN : Hid (n = D.length) := hn
    rw [← hn] at hv hown hDl
    subst hv
    have hsz := hbel.size
    clear heq hbel hn
    by_cases hlt : k < s.size
    · have hb256 : s[k].toNat < 256 := s[k].toNat_lt
      by_cases hc : s[k] = 10
      · have d1 : (s[k].toNat : Int) = 10 := by rw [hc]; rfl
        have HST := lleft_end s k hlt cur hc
        rw [HST] at HEQ
        clear HST
        go_wp2_with (at_builtin; refine wpList_own _ rfl (.tmp 16) (.tmp 18) 66 rfl 9 i0 _ 1 16 Try.underlying66 hi hz0 hz1 hz2 rfl (by decide) w.heap.size (.slice ao n c) n (tcells D) rfl (by exact hown.other (fun g _ hlt => Below.heap_alloc _ _ _ hlt)) ⟨wr.heap.size, 0, none⟩ 1 [.string cur] rfl rfl (by exact box1_cells _ _ _ _ rfl) (text_oneCell cur) (by unfold maxLen; omega) (by omega) (by simp; omega) ?_; intro g' o' cap' w8 hown' hfr)
        go_roundw
        case rel =>
          refine ⟨k + 1, D ++ [cur], ⟨#[]⟩, by omega, by go_num, rfl, Nat.zero_le _, by rw [List.length_append, ← HN.out]; show n + 1 ≤ _; omega, ?_, ?_, ?_⟩
          · rw [List.length_append, ← HN.out]
            have e : tcells (D ++ [cur]) = tcells D ++ [.string cur] := by simp [tcells]
            rw [e]
            exact hown'
          · rw [List.append_assoc]; exact HEQ.out
          · exact (HBL.out.alloc HBL.out.size _).trans (hfr.below (fun g hg => (HOW.out.lt hg).1) (by simp; omega))
        case measure => simp [intOf]; omega
      · have d1 : ¬ (s[k].toNat : Int) = 10 := by
          intro h
          apply hc
          have : s[k].toNat = 10 := by omega
          exact UInt8.toNat_inj.1 (by rw [this]; rfl)
        have HST := lleft_go s k hlt cur hc
        rw [HST] at HEQ
        have c4 : (k : Int) + 1 ≤ s.size := by omega
        clear HST
        go_wp2
        go_roundw
        case rel =>
          refine ⟨k + 1, D, _, by omega, by go_num, rfl, ?_, by rw [← HN.out]; omega, HOW.out, HEQ.out, HBL.out⟩
          rw [ByteArray.size_append, ByteArray.size_extract]
          omega
        case measure => simp [intOf]; omega
    · have HD : Hid (s.data.toList.drop k = []) := List.drop_eq_nil_of_le (by rw [list_len]; omega)
      cases he : (cur.toList == ([] : List UInt8))
      · have HC : Hid (linesB s = D ++ [cur]) := by
          show _ = _
          rw [← HEQ.out, HD.out]
          unfold lleft
          have : cur.data.toList ≠ [] := by
            intro h
            rw [ByteArray.toList_eq, h] at he
            simp at he
          rw [linesA, if_neg this, List.map_cons, list_mk]
          rfl
        go_wp2_with (at_builtin; refine wpList_own _ rfl (.tmp 29) (.tmp 31) 66 rfl 9 i0 _ 1 16 Try.underlying66 hi hz0 hz1 hz2 rfl (by decide) w.heap.size (.slice ao n c) n (tcells D) rfl (by exact hown.other (fun g _ hlt => Below.heap_alloc _ _ _ hlt)) ⟨wr.heap.size, 0, none⟩ 1 [.string cur] rfl rfl (by exact box1_cells _ _ _ _ rfl) (text_oneCell cur) (by unfold maxLen; omega) (by omega) (by simp; omega) ?_; intro g' o' cap' w8 hown' hfr)
        go_ret
        refine ⟨_, rfl, ?_, ?_⟩
        · rw [HC.out, List.length_append, ← HN.out]
          have e : tcells (D ++ [cur]) = tcells D ++ [.string cur] := by simp [tcells]
          rw [e]
          exact hown'
        · exact (HBL.out.alloc HBL.out.size _).trans (hfr.below (fun g hg => (HOW.out.lt hg).1) (by simp; omega))
      · have HC : Hid (linesB s = D) := by
          show _ = _
          rw [← HEQ.out, HD.out]
          unfold lleft
          have : cur.data.toList = [] := by
            have := eq_of_beq he
            rwa [ByteArray.toList_eq] at this
          rw [linesA, if_pos this]
          simp
        go_wp2
        go_ret
        refine ⟨_, rfl, ?_, HBL.out⟩
        rw [HC.out]
        have := HOW.out
        rw [← HN.out] at this ⊢
        exact this
end Go.Proofs.Ytilcmkiihefkkaa
