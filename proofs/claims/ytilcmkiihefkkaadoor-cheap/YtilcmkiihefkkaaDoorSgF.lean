import Derived.Test.YtilcmkiihefkkaaDoorSgE
set_option linter.unusedVariables false
set_option linter.unusedSimpArgs false
set_option maxRecDepth 100000
namespace Go.Proofs.YtilcmkiihefkkaaDoor
open Go.RowKit Go.Shelf

/-- what NewGrid is to give -/
def NgC (read ref : ByteArray) : Prop := ∀ w : World, Calls Tryd.prog 28 #[.string read, .string ref] w fun e w' => ∃ G, e = .returned (.pointer (some ⟨G, 0, none⟩)) ∧ TbI read ref w w' G (read.size + 1)

/-- what letters is to give -/
def RlC (read ref : ByteArray) : Prop := ∀ (w0 w : World) (G : Nat), TbI read ref w0 w G (read.size + 1) → Calls Tryd.prog 29 #[.pointer (some ⟨G, 0, none⟩)] w fun e w' => e = .returned (.string (lets (path 1000000000 (uR read ref) (read.size + ref.size) read.size ref.size 0))) ∧ Below w.heap.size w w'

set_option maxHeartbeats 8000000 in
theorem lettered_any (read ref : ByteArray) (hn : read.size ≤ 300) (hm : ref.size ≤ 600) (hNG : NgC read ref) (hRL : RlC read ref) (w : World) :
    Calls Tryd.prog 19 #[.string read, .string ref] w fun e w' => e = .returned (.tuple #[.string (lets (fwd read ref)), .int .i64 (cntF (sR read ref) (fwd read ref) (0, 0) : Nat)]) ∧ Below w.heap.size w w' := by
  have HAT : Hid (∀ k, k < (fwd read ref).length → (stF (((fwd read ref).take k).foldl stF (0, 0)) ((fwd read ref).getD k 9)).1 ≤ read.size ∧ (stF (((fwd read ref).take k).foldl stF (0, 0)) ((fwd read ref).getD k 9)).2 ≤ ref.size) := fun k hk => fwd_at read ref hn hm k hk
  have HLE : Hid (∀ x ∈ fwd read ref, x ≤ 2) := fun x hx => path_le _ _ _ _ _ _ x (List.mem_reverse.1 hx)
  have hlen : (fwd read ref).length ≤ 900 := by
    have := path_len 1000000000 (uR read ref) (read.size + ref.size) read.size ref.size 0
    unfold fwd
    rw [List.length_reverse]
    omega
  have hR := fun w0 W G h => hRL w0 W G h
  have hP : path 1000000000 (uR read ref) (read.size + ref.size) read.size ref.size 0 = (fwd read ref).reverse := by unfold fwd; rw [List.reverse_reverse]
  rw [hP] at hR
  obtain ⟨Q, hQ⟩ : ∃ Q, Q = fwd read ref := ⟨_, rfl⟩
  rw [← hQ] at HAT HLE hlen hR ⊢
  obtain ⟨n, hnn⟩ : ∃ n, n = Q.length := ⟨_, rfl⟩
  have HQN : Hid (n = Q.length) := hnn
  obtain ⟨s, hs⟩ : ∃ s, s = lets Q.reverse := ⟨_, rfl⟩
  have hss : s.size = n := by rw [hs, lets_size, List.length_reverse, hnn]
  have HSG : Hid (∀ k (h : k < s.size), s[k] = ltr (Q.reverse.getD k 9)) := by
    subst hs; exact lets_get Q.reverse
  rw [← hs] at hR
  rw [← hnn] at hlen
  have HNG : Hid (NgC read ref) := hNG
  have HR : Hid (∀ (w0 W : World) (G : Nat), TbI read ref w0 W G (read.size + 1) → Calls Tryd.prog 29 #[.pointer (some ⟨G, 0, none⟩)] W fun e w' => e = .returned (.string s) ∧ Below W.heap.size W w') := hR
  have cS := fun a b W => rsame_any a b W
  clear hNG hRL hR hP hQ hnn hs
  go_enter Tryd.func19, Tryd.ntmps19
  go_wp2_with fail
  refine (HNG.out w).mono ?_
  rintro e w1 ⟨G, rfl, hT⟩
  have hb1 : Below w.heap.size w w1 := by obtain ⟨_, _, _, _, _, _, _, _, hb, _⟩ := hT; exact hb
  have HT : Hid (TbI read ref w w1 G (read.size + 1)) := hT
  have HB1 : Hid (Below w.heap.size w w1) := hb1
  clear hT hb1
  go_wp2_with fail
  refine (HR.out w w1 G HT.out).mono ?_
  rintro e w2 ⟨rfl, hb2⟩
  have HB2 : Hid (Below w.heap.size w w2) := HB1.out.trans (hb2.mono HB1.out.size)
  clear hb2 HB1 HT
  go_wp2_with fail
  go_loopw [7, 8] (fun ov iv wx => ∃ k : Nat, k ≤ n ∧ iv = .int .i64 k ∧ ov = .string (lets (Q.reverse.take k).reverse) ∧ Below w.heap.size w wx) (fun _ iv _ => n - (intOf iv).toNat)
  case atStart => exact ⟨0, Nat.zero_le _, rfl, rfl, HB2.out⟩
  case round =>
    clear HB2
    obtain ⟨k, hk, rfl, rfl, hbel⟩ := hrel
    have HBL : Hid (Below w.heap.size w wr) := hbel
    clear hbel
    obtain ⟨o, ho⟩ : ∃ o, o = lets (Q.reverse.take k).reverse := ⟨_, rfl⟩
    have HO : Hid (o = lets (Q.reverse.take k).reverse) := ho
    have hos : o.size ≤ 900 := by rw [ho, lets_size, List.length_reverse, List.length_take]; omega
    rw [← ho]
    clear ho
    by_cases hlt : k < n
    · have hkI : (k : Int) < n := by omega
      have hks : k < s.size := by omega
      have hx := extract_one s k hks
      rw [HSG.out k hks] at hx
      have hkr : k < Q.reverse.length := by rw [List.length_reverse, ← HQN.out]; exact hlt
      have HTK := take_rev_succ Q.reverse k hkr
      obtain ⟨l, hl⟩ : ∃ l, l = Q.reverse.getD k 9 := ⟨_, rfl⟩
      rw [← hl] at hx HTK
      have HTKH : Hid ((Q.reverse.take (k + 1)).reverse = l :: (Q.reverse.take k).reverse) := HTK
      have hkw : IntKind.i64.wrap ((k : Int) + 1) = (k : Int) + 1 := by rw [IntKind.wrap_i64]; omega
      have hkn : ((k : Int) + 1).toNat = k + 1 := by omega
      have hk0 : (0 : Int) ≤ (k : Int) + 1 := by omega
      have hc3 : (k : Int) + 1 ≤ n := by omega
      have hc4 : (k : Int) ≤ (k : Int) + 1 := by omega
      have hoc : ¬ 9223372036854775807 < 1 + o.size := by omega
      clear hl HTK
      go_wp2_with fail
      go_roundw
      case rel =>
        refine ⟨k + 1, by omega, by go_num, ?_, HBL.out⟩
        rw [HTKH.out, lets_cons, ← HO.out]
      case measure => simp [intOf]; omega
    · have hke : k = n := by omega
      subst hke
      have hkI : ¬ (k : Int) < k := by omega
      have HOQ : Hid (o = lets Q) := by
        show _ = _
        rw [HO.out, List.take_of_length_le (by rw [List.length_reverse, HQN.out]; exact Nat.le_refl _), List.reverse_reverse]
      have hoq : o.size = k := by rw [HOQ.out, lets_size, ← HQN.out]
      have HOG : Hid (∀ t (h : t < o.size), o[t] = ltr (Q.getD t 9)) := by
        intro t h
        have e := HOQ.out
        subst e
        exact lets_get Q t h
      clear HSG HO
      go_wp2_with fail
      go_loopw [9, 10, 11, 12] (fun nv iv jv kv wx => ∃ t : Nat, t ≤ k ∧ kv = .int .i64 t ∧ nv = .int .i64 (cntF (sR read ref) (Q.take t) (0, 0) : Nat) ∧ iv = .int .i64 (((Q.take t).foldl stF (0, 0)).1 : Nat) ∧ jv = .int .i64 (((Q.take t).foldl stF (0, 0)).2 : Nat) ∧ cntF (sR read ref) (Q.take t) (0, 0) ≤ t ∧ Below w.heap.size w wx) (fun _ _ _ kv _ => k - (intOf kv).toNat)
      case atStart => exact ⟨0, Nat.zero_le _, rfl, rfl, rfl, rfl, Nat.le_refl _, HBL.out⟩
      case round =>
        clear HBL
        obtain ⟨t, ht, rfl, rfl, rfl, rfl, hct, hbel⟩ := hrel
        have HBL : Hid (Below w.heap.size w wr) := hbel
        clear hbel
        by_cases htl : t < k
        · have htI : (t : Int) < k := by omega
          have htq : t < Q.length := by rw [← HQN.out]; exact htl
          have hto : t < o.size := by omega
          have hat := HAT.out t htq
          have hlt2 : Q.getD t 9 ≤ 2 := HLE.out _ (by simp [htq])
          have hog := HOG.out t hto
          have htk : Q.take (t + 1) = Q.take t ++ [Q.getD t 9] := by
            rw [List.take_succ_eq_append_getElem htq]; simp [htq]
          have hcn : cntF (sR read ref) (Q.take (t + 1)) (0, 0) = cntF (sR read ref) (Q.take t) (0, 0) + if Q.getD t 9 = 0 ∧ sR read ref ((Q.take t).foldl stF (0, 0)).1 ((Q.take t).foldl stF (0, 0)).2 = true then 1 else 0 := by rw [htk, cntF_app]
          have hfo : (Q.take (t + 1)).foldl stF (0, 0) = stF ((Q.take t).foldl stF (0, 0)) (Q.getD t 9) := by rw [htk, List.foldl_append]; rfl
          obtain ⟨cn, hcne⟩ : ∃ cn, cn = cntF (sR read ref) (Q.take t) (0, 0) := ⟨_, rfl⟩
          obtain ⟨p, hpe⟩ : ∃ p, p = (Q.take t).foldl stF (0, 0) := ⟨_, rfl⟩
          rw [← hcne] at hcn hct ⊢
          rw [← hpe] at hat hcn hfo ⊢
          obtain ⟨l, hl⟩ : ∃ l, l = Q.getD t 9 := ⟨_, rfl⟩
          rw [← hl] at hat hlt2 hog hcn hfo
          have HCN : Hid (cntF (sR read ref) (Q.take (t + 1)) (0, 0) = cn + if l = 0 ∧ sR read ref p.1 p.2 = true then 1 else 0) := hcn
          have HFO : Hid ((Q.take (t + 1)).foldl stF (0, 0) = stF p l) := hfo
          have hcw : IntKind.i64.wrap ((cn : Int) + 1) = (cn : Int) + 1 := by rw [IntKind.wrap_i64]; omega
          clear hcn hfo hcne hpe hl htk
          obtain ⟨i, j⟩ := p
          have hiw : IntKind.i64.wrap ((i : Int) + 1) = (i : Int) + 1 := by
            have : i ≤ read.size := by have := hat.1; unfold stF at this; simp only at this; split at this <;> omega
            rw [IntKind.wrap_i64]; omega
          have hjw : IntKind.i64.wrap ((j : Int) + 1) = (j : Int) + 1 := by
            have : j ≤ ref.size := by have := hat.2; unfold stF at this; simp only at this; split at this <;> omega
            rw [IntKind.wrap_i64]; omega
          simp only at HCN ⊢
          rcases (show l = 0 ∨ l = 1 ∨ l = 2 by omega) with rfl | rfl | rfl
          · have hi : i < read.size := hat.1
            have hj : j < ref.size := hat.2
            have hiI : (i : Int) < read.size := by omega
            have hjI : (j : Int) < ref.size := by omega
            have hse := sR_eq read ref i j hi hj
            have cX := fun W => rsame_any read[i] ref[j] W
            rw [hse] at cX
            rw [show ltr 0 = (77 : UInt8) from rfl] at hog
            have hog2 : ((o[t].toNat : Int)) = 77 := by rw [hog]; rfl
            by_cases hb : sR read ref i j = true
            · rw [hb] at cX
              have HB : Hid (sR read ref i j = true) := hb
              clear hb hse cS
              go_upto_region 14 with fail
              refine wp_region_X 8 (fun _ => True) (by kernel_rfl) trivial (fun hH => ?_)
              refine wpAnyX_take (i := 0) (v := ?_) rfl (by kernel_rfl) (by kernel_rfl) (by kernel_rfl) (by kernel_rfl) (fun _ _ _ h => h) (Or.inl ⟨by rfl, ?_⟩) hH ?_
              rotate_left
              · intro W hS; (try dsimp only at hS); go_simp; all_goals (with_reducible rfl)
              try simp only [Act.put, List.setIfInBounds_toArray, List.set_cons_zero, List.set_cons_succ]
              refine wpAnyX_take (i := 1) (v := ?_) rfl (by kernel_rfl) (by kernel_rfl) (by kernel_rfl) (by kernel_rfl) (fun _ _ _ h => h) (Or.inl ⟨by rfl, ?_⟩) hH ?_
              rotate_left
              · intro W hS; (try dsimp only at hS); go_simp; all_goals (with_reducible rfl)
              try simp only [Act.put, List.setIfInBounds_toArray, List.set_cons_zero, List.set_cons_succ]
              refine wpAnyX_take (i := 2) (v := ?_) rfl (by kernel_rfl) (by kernel_rfl) (by kernel_rfl) (by kernel_rfl) (fun _ _ _ h => h) (Or.inl ⟨by rfl, ?_⟩) hH ?_
              rotate_left
              · intro W hS; (try dsimp only at hS); go_simp; all_goals (with_reducible rfl)
              try simp only [Act.put, List.setIfInBounds_toArray, List.set_cons_zero, List.set_cons_succ]
              refine wpAnyX_take (i := 3) (v := ?_) rfl (by kernel_rfl) (by kernel_rfl) (by kernel_rfl) (by kernel_rfl) (fun _ _ _ h => h) (Or.inl ⟨by rfl, ?_⟩) hH ?_
              rotate_left
              · intro W hS; (try dsimp only at hS); go_simp; all_goals (with_reducible rfl)
              try simp only [Act.put, List.setIfInBounds_toArray, List.set_cons_zero, List.set_cons_succ]
              refine wpAnyX_take (i := 4) (v := ?_) rfl (by kernel_rfl) (by kernel_rfl) (by kernel_rfl) (by kernel_rfl) (fun _ _ _ h => h) (Or.inl ⟨by rfl, ?_⟩) hH ?_
              rotate_left
              · intro W hS; (try dsimp only at hS); go_simp; all_goals (with_reducible rfl)
              try simp only [Act.put, List.setIfInBounds_toArray, List.set_cons_zero, List.set_cons_succ]
              refine wpAnyX_take (i := 5) (v := ?_) rfl (by kernel_rfl) (by kernel_rfl) (by kernel_rfl) (by kernel_rfl) (fun _ _ _ h => h) (Or.inl ⟨by rfl, ?_⟩) hH ?_
              rotate_left
              · intro W hS; (try dsimp only at hS); go_simp; all_goals (with_reducible rfl)
              try simp only [Act.put, List.setIfInBounds_toArray, List.set_cons_zero, List.set_cons_succ]
              refine wpAnyX_step (i := 6) (by kernel_rfl) rfl (by kernel_rfl) (fun K hK => ?_)
              go_simp
              go_at_call 30
              refine (cX _).mono ?_
              rintro e w9 ⟨rfl, rfl⟩
              refine hK.out _ _ trivial ?_
              clear hK K
              try simp only [Act.put, List.setIfInBounds_toArray, List.set_cons_zero, List.set_cons_succ]
              refine wpAnyX_take (i := 7) (v := ?_) rfl (by kernel_rfl) (by kernel_rfl) (by kernel_rfl) (by kernel_rfl) (fun _ _ _ h => h) (Or.inl ⟨by rfl, ?_⟩) hH ?_
              rotate_left
              · intro W hS; (try dsimp only at hS); go_simp; all_goals (with_reducible rfl)
              try simp only [Act.put, List.setIfInBounds_toArray, List.set_cons_zero, List.set_cons_succ]
              refine wpAnyX_done (by kernel_rfl) ?_
              clear hH
              go_wp2_with fail
              go_roundw
              case rel =>
                refine ⟨t + 1, by omega, by go_num, ?_, ?_, ?_, ?_, belDrewN HBL.out 1⟩
                · rw [HCN.out, if_pos ⟨rfl, HB.out⟩]; go_num
                · rw [HFO.out]; show _ = Value.int .i64 ((i + 1 : Nat) : Int); go_num
                · rw [HFO.out]; show _ = Value.int .i64 ((j + 1 : Nat) : Int); go_num
                · rw [HCN.out, if_pos ⟨rfl, HB.out⟩]; omega
              case measure => simp [intOf]; omega
            · have hb' : sR read ref i j = false := by simpa using hb
              rw [hb'] at cX
              have HB : Hid (sR read ref i j = false) := hb'
              clear hb hb' hse cS
              go_upto_region 14 with fail
              refine wp_region_X 8 (fun _ => True) (by kernel_rfl) trivial (fun hH => ?_)
              refine wpAnyX_take (i := 0) (v := ?_) rfl (by kernel_rfl) (by kernel_rfl) (by kernel_rfl) (by kernel_rfl) (fun _ _ _ h => h) (Or.inl ⟨by rfl, ?_⟩) hH ?_
              rotate_left
              · intro W hS; (try dsimp only at hS); go_simp; all_goals (with_reducible rfl)
              try simp only [Act.put, List.setIfInBounds_toArray, List.set_cons_zero, List.set_cons_succ]
              refine wpAnyX_take (i := 1) (v := ?_) rfl (by kernel_rfl) (by kernel_rfl) (by kernel_rfl) (by kernel_rfl) (fun _ _ _ h => h) (Or.inl ⟨by rfl, ?_⟩) hH ?_
              rotate_left
              · intro W hS; (try dsimp only at hS); go_simp; all_goals (with_reducible rfl)
              try simp only [Act.put, List.setIfInBounds_toArray, List.set_cons_zero, List.set_cons_succ]
              refine wpAnyX_take (i := 2) (v := ?_) rfl (by kernel_rfl) (by kernel_rfl) (by kernel_rfl) (by kernel_rfl) (fun _ _ _ h => h) (Or.inl ⟨by rfl, ?_⟩) hH ?_
              rotate_left
              · intro W hS; (try dsimp only at hS); go_simp; all_goals (with_reducible rfl)
              try simp only [Act.put, List.setIfInBounds_toArray, List.set_cons_zero, List.set_cons_succ]
              refine wpAnyX_take (i := 3) (v := ?_) rfl (by kernel_rfl) (by kernel_rfl) (by kernel_rfl) (by kernel_rfl) (fun _ _ _ h => h) (Or.inl ⟨by rfl, ?_⟩) hH ?_
              rotate_left
              · intro W hS; (try dsimp only at hS); go_simp; all_goals (with_reducible rfl)
              try simp only [Act.put, List.setIfInBounds_toArray, List.set_cons_zero, List.set_cons_succ]
              refine wpAnyX_take (i := 4) (v := ?_) rfl (by kernel_rfl) (by kernel_rfl) (by kernel_rfl) (by kernel_rfl) (fun _ _ _ h => h) (Or.inl ⟨by rfl, ?_⟩) hH ?_
              rotate_left
              · intro W hS; (try dsimp only at hS); go_simp; all_goals (with_reducible rfl)
              try simp only [Act.put, List.setIfInBounds_toArray, List.set_cons_zero, List.set_cons_succ]
              refine wpAnyX_take (i := 5) (v := ?_) rfl (by kernel_rfl) (by kernel_rfl) (by kernel_rfl) (by kernel_rfl) (fun _ _ _ h => h) (Or.inl ⟨by rfl, ?_⟩) hH ?_
              rotate_left
              · intro W hS; (try dsimp only at hS); go_simp; all_goals (with_reducible rfl)
              try simp only [Act.put, List.setIfInBounds_toArray, List.set_cons_zero, List.set_cons_succ]
              refine wpAnyX_step (i := 6) (by kernel_rfl) rfl (by kernel_rfl) (fun K hK => ?_)
              go_simp
              go_at_call 30
              refine (cX _).mono ?_
              rintro e w9 ⟨rfl, rfl⟩
              refine hK.out _ _ trivial ?_
              clear hK K
              try simp only [Act.put, List.setIfInBounds_toArray, List.set_cons_zero, List.set_cons_succ]
              refine wpAnyX_take (i := 7) (v := ?_) rfl (by kernel_rfl) (by kernel_rfl) (by kernel_rfl) (by kernel_rfl) (fun _ _ _ h => h) (Or.inl ⟨by rfl, ?_⟩) hH ?_
              rotate_left
              · intro W hS; (try dsimp only at hS); go_simp; all_goals (with_reducible rfl)
              try simp only [Act.put, List.setIfInBounds_toArray, List.set_cons_zero, List.set_cons_succ]
              refine wpAnyX_done (by kernel_rfl) ?_
              clear hH
              go_wp2_with fail
              go_roundw
              case rel =>
                have hz : ¬ (0 = 0 ∧ sR read ref i j = true) := fun h => by have := h.2; rw [HB.out] at this; cases this
                refine ⟨t + 1, by omega, by go_num, ?_, ?_, ?_, ?_, belDrewN HBL.out 1⟩
                · rw [HCN.out, if_neg hz]; rfl
                · rw [HFO.out]; show _ = Value.int .i64 ((i + 1 : Nat) : Int); go_num
                · rw [HFO.out]; show _ = Value.int .i64 ((j + 1 : Nat) : Int); go_num
                · rw [HCN.out, if_neg hz]; omega
              case measure => simp [intOf]; omega
          · rw [show ltr 1 = (73 : UInt8) from rfl] at hog
            have hog2 : ((o[t].toNat : Int)) = 73 := by rw [hog]; rfl
            go_wp2_with fail
            go_roundw
            case rel =>
              have hz : ¬ (1 = 0 ∧ sR read ref i j = true) := fun h => absurd h.1 (by decide)
              refine ⟨t + 1, by omega, by go_num, ?_, ?_, ?_, ?_, HBL.out⟩
              · rw [HCN.out, if_neg hz]; rfl
              · rw [HFO.out]; show _ = Value.int .i64 ((i + 1 : Nat) : Int); go_num
              · rw [HFO.out]; rfl
              · rw [HCN.out, if_neg hz]; omega
            case measure => simp [intOf]; omega
          · rw [show ltr 2 = (68 : UInt8) from rfl] at hog
            have hog2 : ((o[t].toNat : Int)) = 68 := by rw [hog]; rfl
            go_wp2_with fail
            go_roundw
            case rel =>
              have hz : ¬ (2 = 0 ∧ sR read ref i j = true) := fun h => absurd h.1 (by decide)
              refine ⟨t + 1, by omega, by go_num, ?_, ?_, ?_, ?_, HBL.out⟩
              · rw [HCN.out, if_neg hz]; rfl
              · rw [HFO.out]; rfl
              · rw [HFO.out]; show _ = Value.int .i64 ((j + 1 : Nat) : Int); go_num
              · rw [HCN.out, if_neg hz]; omega
            case measure => simp [intOf]; omega
        · have hte : t = k := by omega
          subst hte
          have htI : ¬ (t : Int) < t := by omega
          have hcq : Q.take t = Q := List.take_of_length_le (by rw [HQN.out]; exact Nat.le_refl _)
          rw [hcq]
          go_wp2_with fail
          go_ret2
          refine ⟨?_, HBL.out⟩
          rw [← HOQ.out]
          rfl
end Go.Proofs.YtilcmkiihefkkaaDoor
