import Derived.Test.YtilcmkiihefkkaaDoorSfA
set_option linter.unusedVariables false
set_option linter.unusedSimpArgs false
set_option maxRecDepth 100000
namespace Go.Proofs.YtilcmkiihefkkaaDoor
open Go.RowKit Go.Shelf

/-- a digit's byte -/
def dgB (n : Nat) : UInt8 := UInt8.ofNat (48 + n)

theorem dgB_toNat (n : Nat) (h : n < 10) : (dgB n).toNat = 48 + n := by
  unfold dgB
  rw [UInt8.toNat_ofNat']
  omega

theorem conv_one (W : World) (b : Nat) (c : UInt8) (h : W.cell? ⟨b, 0, none⟩ = some (.int .u8 (c.toNat : Int))) :
    (convert 57 9 (.slice (some ⟨b, 0, none⟩) 1 1)).run Tryd.prog W = .ok (.string ⟨#[c]⟩) W := by
  have := run_convert_bytes_back (P := Tryd.prog) W 57 9 5 ⟨b, 0, none⟩ 1 [c] Tryd.underlying57 Tryd.underlying5 Tryd.underlying9 (by
    intro i hi
    have hi0 : i = 0 := by simpa using hi
    subst hi0
    rw [Addr.add_lit, Nat.zero_add]
    exact h)
  simpa using this

theorem str_append (a b : List UInt8) : (⟨a.toArray⟩ : ByteArray) ++ ⟨b.toArray⟩ = ⟨(a ++ b).toArray⟩ := by
  apply ByteArray.ext
  rw [ByteArray.data_append]
  simp

section
variable {P : Program} {ops : Array Oper} {Q : Exit → Act → World → Prop} {md : Region.Mode} {S : World → Prop} {L : Nat}

/-- two may come up -/
theorem wpAnyX_two {i j : Nat} {oi oj : Oper} {fuel : Nat} {listed : Array Bool} {a : Act} {w : World} (hr : Region.ready md ops listed = [i, j]) (hi' : ops.toList[i]? = some oi) (hj' : ops.toList[j]? = some oj) (hiL : (i == L) = false) (hjL : (j == L) = false)
    (h1 : ∀ K : Act → World → Prop, Shut (∀ a' w', S w' → wpAnyX P md ops Q S L fuel (listed.setIfInBounds i true) a' w' → K a' w') → if Region.wanted oi (yielded ops a.tmps) = true then Oper.wp P oi a w K Q else K (a.put oi.dst undef) w)
    (h2 : ∀ K : Act → World → Prop, Shut (∀ a' w', S w' → wpAnyX P md ops Q S L fuel (listed.setIfInBounds j true) a' w' → K a' w') → if Region.wanted oj (yielded ops a.tmps) = true then Oper.wp P oj a w K Q else K (a.put oj.dst undef) w) : wpAnyX P md ops Q S L (fuel + 1) listed a w := by
  have hi : ops[i]? = some oi := by simpa using hi'
  have hj : ops[j]? = some oj := by simpa using hj'
  have hne : i ≠ L := by simpa using hiL
  have hne2 : j ≠ L := by simpa using hjL
  refine ⟨fun h0 => (by rw [hr] at h0; cases h0), fun k hk => ?_⟩
  rw [hr] at hk
  rcases (show k = i ∨ k = j by simpa using hk) with rfl | rfl
  · have := h1 (fun a' w' => (k ≠ L → S w') ∧ wpAnyX P md ops Q S L fuel (listed.setIfInBounds k true) a' w') (fun a' w' h1 h2 => ⟨fun _ => h1, h2⟩)
    unfold wpOp
    simp only [hi]
    split
    · rename_i hw
      rw [if_pos hw] at this
      exact Or.inl this
    · rename_i hw
      rw [if_neg hw] at this
      exact this
  · have := h2 (fun a' w' => (k ≠ L → S w') ∧ wpAnyX P md ops Q S L fuel (listed.setIfInBounds k true) a' w') (fun a' w' h1 h2 => ⟨fun _ => h1, h2⟩)
    unfold wpOp
    simp only [hj]
    split
    · rename_i hw
      rw [if_pos hw] at this
      exact Or.inl this
    · rename_i hw
      rw [if_neg hw] at this
      exact this
end

set_option maxHeartbeats 4000000 in
theorem digits_small (n : Nat) (w : World) (h : n < 10) : Calls Tryd.prog 31 #[.int .i64 n] w fun e w' => e = .returned (.string ⟨(Lib.decDigits n).toArray⟩) ∧ Below w.heap.size w w' := by
  rw [Lib.decDigits_one h]
  have hI : (n : Int) < 10 := by omega
  have hw : IntKind.u8.wrap (48 + (n : Int)) = ((dgB n).toNat : Int) := by rw [dgB_toNat n h, IntKind.wrap_u8]; omega
  have hcv : (convert 57 9 (.slice (some ⟨w.heap.size, 0, none⟩) 1 1)).run Tryd.prog (w.alloc (.cells #[.int .u8 ((dgB n).toNat : Int)] 5)) = .ok (.string ⟨#[dgB n]⟩) (w.alloc (.cells #[.int .u8 ((dgB n).toNat : Int)] 5)) := conv_one _ _ _ (cell_at (heap_alloc_new w _) rfl)
  have HD : Hid (dgB n = UInt8.ofNat (48 + n)) := rfl
  generalize dgB n = d at hw hcv HD
  go_enter Tryd.func31, Tryd.ntmps31
  go_wp2_with fail
  go_ret
  refine ⟨?_, (Below.refl _ w).alloc (Nat.le_refl _) _⟩
  rw [HD.out]
  rfl

set_option maxHeartbeats 4000000 in
theorem digits_any (f : Nat) : ∀ (n : Nat) (w : World), n ≤ f → n ≤ 100000 → Calls Tryd.prog 31 #[.int .i64 n] w fun e w' => e = .returned (.string ⟨(Lib.decDigits n).toArray⟩) ∧ Below w.heap.size w w' := by
  induction f with
  | zero =>
    intro n w hf hn
    obtain rfl : n = 0 := by omega
    exact digits_small 0 w (by omega)
  | succ f ih =>
    intro n w hf hn
    by_cases h : n < 10
    · exact digits_small n w h
    · have hI : ¬ (n : Int) < 10 := by omega
      have hm : n % 10 < 10 := Nat.mod_lt _ (by omega)
      have hw : IntKind.u8.wrap (48 + (n : Int) % 10) = ((dgB (n % 10)).toNat : Int) := by rw [dgB_toNat _ hm, IntKind.wrap_u8]; omega
      have cD := fun W => ih (n / 10) W (by omega) (by omega)
      clear ih
      have HDD : Hid (Lib.decDigits n = Lib.decDigits (n / 10) ++ [dgB (n % 10)]) := by
        show _ = _
        rw [Lib.decDigits, dif_neg h]
        rfl
      have hDl : (Lib.decDigits (n / 10)).length ≤ 21 := by
        have := Lib.itoa_length_le ((n / 10 : Nat) : Int) (by omega) (by omega)
        rwa [Lib.itoa_nonneg] at this
      obtain ⟨d, hd⟩ : ∃ d, d = dgB (n % 10) := ⟨_, rfl⟩
      obtain ⟨D, hD⟩ : ∃ D, D = Lib.decDigits (n / 10) := ⟨_, rfl⟩
      rw [← hd] at hw HDD
      rw [← hD] at cD HDD hDl
      have hDl2 : ¬ 9223372036854775807 < D.length + 1 := by omega
      have hq : ((n / 10 : Nat) : Int) = (n : Int) / 10 := by omega
      rw [hq] at cD
      clear hd hD hq
      have ht : (n : Int).tmod 10 = (n : Int) % 10 := Int.tmod_eq_emod_of_nonneg (by omega)
      have hw1 : IntKind.i64.wrap (48 + (n : Int) % 10) = 48 + (n : Int) % 10 := by rw [IntKind.wrap_i64]; omega
      have hqw : IntKind.i64.wrap ((n : Int) / 10) = (n : Int) / 10 := by rw [IntKind.wrap_i64]; omega
      go_enter Tryd.func31, Tryd.ntmps31
      go_upto_region 3 with fail
      refine wp_region_X 11 (fun _ => True) (by kernel_rfl) trivial (fun hH => ?_)
      refine wpAnyX_take (i := 0) (v := ?_) rfl (by kernel_rfl) (by kernel_rfl) (by kernel_rfl) (by kernel_rfl) (fun _ _ _ h => h) (Or.inl ⟨by rfl, ?_⟩) hH ?_
      rotate_left
      · intro W hS; (try dsimp only at hS); go_simp; all_goals (with_reducible rfl)
      try simp only [Act.put, List.setIfInBounds_toArray, List.set_cons_zero, List.set_cons_succ]
      refine wpAnyX_take (i := 1) (v := ?_) rfl (by kernel_rfl) (by kernel_rfl) (by kernel_rfl) (by kernel_rfl) (fun _ _ _ h => h) (Or.inl ⟨by rfl, ?_⟩) hH ?_
      rotate_left
      · intro W hS; (try dsimp only at hS); go_simp; all_goals (with_reducible rfl)
      try simp only [Act.put, List.setIfInBounds_toArray, List.set_cons_zero, List.set_cons_succ]
      refine wpAnyX_take (i := 3) (v := ?_) rfl (by kernel_rfl) (by kernel_rfl) (by kernel_rfl) (by kernel_rfl) (fun _ _ _ h => h) (Or.inl ⟨by rfl, ?_⟩) hH ?_
      rotate_left
      · intro W hS; (try dsimp only at hS); go_simp; all_goals (with_reducible rfl)
      try simp only [Act.put, List.setIfInBounds_toArray, List.set_cons_zero, List.set_cons_succ]
      refine wpAnyX_take (i := 4) (v := ?_) rfl (by kernel_rfl) (by kernel_rfl) (by kernel_rfl) (by kernel_rfl) (fun _ _ _ h => h) (Or.inl ⟨by rfl, ?_⟩) hH ?_
      rotate_left
      · intro W hS; (try dsimp only at hS); go_simp; all_goals (with_reducible rfl)
      try simp only [Act.put, List.setIfInBounds_toArray, List.set_cons_zero, List.set_cons_succ]
      refine wpAnyX_take (i := 5) (v := ?_) rfl (by kernel_rfl) (by kernel_rfl) (by kernel_rfl) (by kernel_rfl) (fun _ _ _ h => h) (Or.inl ⟨by rfl, ?_⟩) hH ?_
      rotate_left
      · intro W hS; (try dsimp only at hS); go_simp; all_goals (with_reducible rfl)
      try simp only [Act.put, List.setIfInBounds_toArray, List.set_cons_zero, List.set_cons_succ]
      refine wpAnyX_take (i := 6) (v := ?_) rfl (by kernel_rfl) (by kernel_rfl) (by kernel_rfl) (by kernel_rfl) (fun _ _ _ h => h) (Or.inl ⟨by rfl, ?_⟩) hH ?_
      rotate_left
      · intro W hS; (try dsimp only at hS); go_simp; all_goals (with_reducible rfl)
      try simp only [Act.put, List.setIfInBounds_toArray, List.set_cons_zero, List.set_cons_succ]
      refine wpAnyX_two (i := 2) (j := 7) (by kernel_rfl) rfl rfl (by kernel_rfl) (by kernel_rfl) (fun K hK => ?_) (fun K hK => ?_)
      · go_simp
        go_at_call 31
        refine (cD _).mono ?_
        rintro e w2 ⟨rfl, hb2⟩
        have B2 : Below w.heap.size w w2 := ⟨hb2.os, hb2.tape, hb2.output, hb2.size, hb2.block⟩
        clear hb2
        refine hK.out _ _ trivial ?_
        clear hK K
        try simp only [Act.put, List.setIfInBounds_toArray, List.set_cons_zero, List.set_cons_succ]
        refine wpAnyX_step (i := 7) (by kernel_rfl) rfl (by kernel_rfl) (fun K hK => ?_)
        go_simp
        refine hK.out _ _ trivial ?_
        clear hK K
        try simp only [Act.put, List.setIfInBounds_toArray, List.set_cons_zero, List.set_cons_succ]
        have hcv := conv_one (w2.alloc (.cells #[.int .u8 (d.toNat : Int)] 5)) w2.heap.size d (cell_at (heap_alloc_new w2 _) rfl)
        refine wpAnyX_step (i := 8) (by kernel_rfl) rfl (by kernel_rfl) (fun K hK => ?_)
        go_simp
        refine hK.out _ _ trivial ?_
        clear hK K hcv
        try simp only [Act.put, List.setIfInBounds_toArray, List.set_cons_zero, List.set_cons_succ]
        refine wpAnyX_take (i := 9) (v := ?_) rfl (by kernel_rfl) (by kernel_rfl) (by kernel_rfl) (by kernel_rfl) (fun _ _ _ h => h) (Or.inl ⟨by rfl, ?_⟩) hH ?_
        rotate_left
        · intro W hS; (try dsimp only at hS); go_simp; all_goals (with_reducible rfl)
        try simp only [Act.put, List.setIfInBounds_toArray, List.set_cons_zero, List.set_cons_succ]
        refine wpAnyX_take (i := 10) (v := ?_) rfl (by kernel_rfl) (by kernel_rfl) (by kernel_rfl) (by kernel_rfl) (fun _ _ _ h => h) (Or.inl ⟨by rfl, ?_⟩) hH ?_
        rotate_left
        · intro W hS; (try dsimp only at hS); go_simp; all_goals (with_reducible rfl)
        try simp only [Act.put, List.setIfInBounds_toArray, List.set_cons_zero, List.set_cons_succ]
        refine wpAnyX_done (by kernel_rfl) ?_
        clear hH
        go_wp2_with fail
        go_ret
        refine ⟨?_, B2.alloc B2.size _⟩
        rw [HDD.out]
        exact congrArg (fun x => Ending.returned (Value.string x)) (str_append _ _)
      · go_simp
        refine hK.out _ _ trivial ?_
        clear hK K
        try simp only [Act.put, List.setIfInBounds_toArray, List.set_cons_zero, List.set_cons_succ]
        have hc0 : (w.alloc (.cells #[.int .u8 (d.toNat : Int)] 5)).drew.cell? ⟨w.heap.size, 0, none⟩ = some (.int .u8 (d.toNat : Int)) := cell_at (w := (w.alloc (.cells #[.int .u8 (d.toNat : Int)] 5)).drew) (heap_alloc_new w _) rfl
        have hb0 : Below w.heap.size w (w.alloc (.cells #[.int .u8 (d.toNat : Int)] 5)).drew := belDrewN ((Below.refl _ w).alloc (Nat.le_refl _) _) 1
        have hs0 : (w.alloc (.cells #[.int .u8 (d.toNat : Int)] 5)).drew.heap.size = w.heap.size + 1 := by simp
        generalize (w.alloc (.cells #[.int .u8 (d.toNat : Int)] 5)).drew = w1 at hc0 hb0 hs0 ⊢
        have HB0 : Hid (Below w.heap.size w w1) := hb0
        clear hb0
        refine wpAnyX_two (i := 2) (j := 8) (by kernel_rfl) rfl rfl (by kernel_rfl) (by kernel_rfl) (fun K hK => ?_) (fun K hK => ?_)
        · go_simp
          go_at_call 31
          refine (cD _).mono ?_
          rintro e w2 ⟨rfl, hb2⟩
          have hcv := conv_one w2 w.heap.size d ((hb2.cell (p := ⟨w.heap.size, 0, none⟩) (by show w.heap.size < _; omega)).trans hc0)
          have HB2 : Hid (Below w.heap.size w w2) := HB0.out.trans (hb2.mono (by omega))
          clear hb2
          refine hK.out _ _ trivial ?_
          clear hK K
          try simp only [Act.put, List.setIfInBounds_toArray, List.set_cons_zero, List.set_cons_succ]
          refine wpAnyX_step (i := 8) (by kernel_rfl) rfl (by kernel_rfl) (fun K hK => ?_)
          go_simp
          refine hK.out _ _ trivial ?_
          clear hK K hcv
          try simp only [Act.put, List.setIfInBounds_toArray, List.set_cons_zero, List.set_cons_succ]
          refine wpAnyX_take (i := 9) (v := ?_) rfl (by kernel_rfl) (by kernel_rfl) (by kernel_rfl) (by kernel_rfl) (fun _ _ _ h => h) (Or.inl ⟨by rfl, ?_⟩) hH ?_
          rotate_left
          · intro W hS; (try dsimp only at hS); go_simp; all_goals (with_reducible rfl)
          try simp only [Act.put, List.setIfInBounds_toArray, List.set_cons_zero, List.set_cons_succ]
          refine wpAnyX_take (i := 10) (v := ?_) rfl (by kernel_rfl) (by kernel_rfl) (by kernel_rfl) (by kernel_rfl) (fun _ _ _ h => h) (Or.inl ⟨by rfl, ?_⟩) hH ?_
          rotate_left
          · intro W hS; (try dsimp only at hS); go_simp; all_goals (with_reducible rfl)
          try simp only [Act.put, List.setIfInBounds_toArray, List.set_cons_zero, List.set_cons_succ]
          refine wpAnyX_done (by kernel_rfl) ?_
          clear hH
          go_wp2_with fail
          go_ret
          refine ⟨?_, HB2.out⟩
          rw [HDD.out]
          exact congrArg (fun x => Ending.returned (Value.string x)) (str_append _ _)
        · have hcv := conv_one w1 w.heap.size d hc0
          go_simp
          refine hK.out _ _ trivial ?_
          clear hK K hcv
          try simp only [Act.put, List.setIfInBounds_toArray, List.set_cons_zero, List.set_cons_succ]
          refine wpAnyX_step (i := 2) (by kernel_rfl) rfl (by kernel_rfl) (fun K hK => ?_)
          go_simp
          go_at_call 31
          refine (cD _).mono ?_
          rintro e w2 ⟨rfl, hb2⟩
          have HB2 : Hid (Below w.heap.size w w2) := HB0.out.trans (hb2.mono (by omega))
          clear hb2
          refine hK.out _ _ trivial ?_
          clear hK K
          try simp only [Act.put, List.setIfInBounds_toArray, List.set_cons_zero, List.set_cons_succ]
          refine wpAnyX_take (i := 9) (v := ?_) rfl (by kernel_rfl) (by kernel_rfl) (by kernel_rfl) (by kernel_rfl) (fun _ _ _ h => h) (Or.inl ⟨by rfl, ?_⟩) hH ?_
          rotate_left
          · intro W hS; (try dsimp only at hS); go_simp; all_goals (with_reducible rfl)
          try simp only [Act.put, List.setIfInBounds_toArray, List.set_cons_zero, List.set_cons_succ]
          refine wpAnyX_take (i := 10) (v := ?_) rfl (by kernel_rfl) (by kernel_rfl) (by kernel_rfl) (by kernel_rfl) (fun _ _ _ h => h) (Or.inl ⟨by rfl, ?_⟩) hH ?_
          rotate_left
          · intro W hS; (try dsimp only at hS); go_simp; all_goals (with_reducible rfl)
          try simp only [Act.put, List.setIfInBounds_toArray, List.set_cons_zero, List.set_cons_succ]
          refine wpAnyX_done (by kernel_rfl) ?_
          clear hH
          go_wp2_with fail
          go_ret
          refine ⟨?_, HB2.out⟩
          rw [HDD.out]
          exact congrArg (fun x => Ending.returned (Value.string x)) (str_append _ _)
end Go.Proofs.YtilcmkiihefkkaaDoor
