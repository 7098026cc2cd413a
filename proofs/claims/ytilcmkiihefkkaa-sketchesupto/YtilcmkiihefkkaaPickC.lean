import Derived.Test.YtilcmkiihefkkaaPickB
set_option linter.unusedVariables false
set_option linter.unusedSimpArgs false
set_option maxRecDepth 100000
namespace Go.Proofs.Ytilcmkiihefkkaa
open Go.RowKit

/-- the hash of a code -/
def hashN (k c : Nat) : Nat := (c * 2654435761 % 4 ^ k) ^^^ (c * 2654435761 % 4 ^ k / 2 ^ k)

theorem pow_cases (k : Nat) (h1 : 1 ≤ k) (h2 : k ≤ 12) : (4 : Nat) ^ k ≤ 16777216 ∧ 4 ≤ (4 : Nat) ^ k ∧ (4 : Nat) ^ k = 2 ^ (2 * k) := by
  rcases (show k = 1 ∨ k = 2 ∨ k = 3 ∨ k = 4 ∨ k = 5 ∨ k = 6 ∨ k = 7 ∨ k = 8 ∨ k = 9 ∨ k = 10 ∨ k = 11 ∨ k = 12 by omega) with rfl | rfl | rfl | rfl | rfl | rfl | rfl | rfl | rfl | rfl | rfl | rfl <;> decide

theorem allBits_eq (k : Nat) (h1 : 1 ≤ k) (h2 : k ≤ 12) : IntKind.u64.wrap (IntKind.u64.wrap (2 ^ (2 * k)) - 1) = ((4 ^ k - 1 : Nat) : Int) := by
  rcases (show k = 1 ∨ k = 2 ∨ k = 3 ∨ k = 4 ∨ k = 5 ∨ k = 6 ∨ k = 7 ∨ k = 8 ∨ k = 9 ∨ k = 10 ∨ k = 11 ∨ k = 12 by omega) with rfl | rfl | rfl | rfl | rfl | rfl | rfl | rfl | rfl | rfl | rfl | rfl <;> decide

theorem ret_int {k : IntKind} {a b : Int} (h : a = b) : Ending.returned (.int k a) = .returned (.int k b) := by rw [h]

set_option maxHeartbeats 400000 in
theorem allBits_any (k : Nat) (w : World) (h1 : 1 ≤ k) (h2 : k ≤ 12) :
    Calls Try.prog 62 #[.int .i64 k] w fun e w' => e = .returned (.int .u64 ((4 ^ k - 1 : Nat) : Int)) ∧ w' = w := by
  go_enter Try.func62, Try.ntmps62
  go_wp2
  go_ret
  exact ⟨ret_int (allBits_eq k h1 h2), rfl⟩

theorem mask_eq (k x : Nat) (h1 : 1 ≤ k) (h2 : k ≤ 12) : x &&& (4 ^ k - 1) = x % 4 ^ k := by
  rw [(pow_cases k h1 h2).2.2, Nat.and_two_pow_sub_one_eq_mod]

theorem hash_eq (k c : Nat) (h1 : 1 ≤ k) (h2 : k ≤ 12) (hc : c < 16777216) :
    wrap64 (bits BinOp.xor IntKind.u64 (bits BinOp.and IntKind.u64 ((c : Int) * 2654435761) ((4 ^ k - 1 : Nat) : Int)) (bits BinOp.and IntKind.u64 ((c : Int) * 2654435761) ((4 ^ k - 1 : Nat) : Int) / 2 ^ k)) = ((hashN k c : Nat) : Int) := by
  have hp := pow_cases k h1 h2
  have e1 : ((c : Int) * 2654435761) = ((c * 2654435761 : Nat) : Int) := by omega
  have hA : bits BinOp.and IntKind.u64 ((c : Int) * 2654435761) ((4 ^ k - 1 : Nat) : Int) = ((c * 2654435761 % 4 ^ k : Nat) : Int) := by
    rw [e1, u64_and_nat _ _ (by omega) (by omega), mask_eq k _ h1 h2]
  rw [hA]
  have hlt : c * 2654435761 % 4 ^ k < 4 ^ k := Nat.mod_lt _ (by omega)
  have hd : ((c * 2654435761 % 4 ^ k : Nat) : Int) / 2 ^ k = ((c * 2654435761 % 4 ^ k / 2 ^ k : Nat) : Int) := by rw [Int.natCast_ediv, Int.natCast_pow]; rfl
  have hdl : c * 2654435761 % 4 ^ k / 2 ^ k ≤ c * 2654435761 % 4 ^ k := Nat.div_le_self _ _
  rw [hd, u64_xor_nat _ _ (by omega) (by omega)]
  have hx : (c * 2654435761 % 4 ^ k) ^^^ (c * 2654435761 % 4 ^ k / 2 ^ k) < 2 ^ 24 := Nat.xor_lt_two_pow (by omega) (by omega)
  unfold hashN
  rw [IntWalk.wrap64_in _ ⟨by omega, by omega⟩]

set_option maxHeartbeats 400000 in
theorem hash_any (k c : Nat) (w : World) (h1 : 1 ≤ k) (h2 : k ≤ 12) (hc : c < 16777216) :
    Calls Try.prog 60 #[.int .u64 c, .int .i64 k] w fun e w' => e = .returned (.int .i64 (hashN k c : Nat)) ∧ w' = w := by
  go_enter Try.func60, Try.ntmps60
  go_wp2_with (go_at_call 62; refine (allBits_any _ _ h1 h2).mono ?_; rintro e w' ⟨rfl, rfl⟩)
  go_ret
  exact ⟨ret_int (hash_eq k c h1 h2 hc), rfl⟩

/-- the words that stay when one of a hash is taken in -/
def keepL (L : List W3) (h : Int) : List W3 := (L.reverse.dropWhile (fun y => decide (h < y.h))).reverse

theorem keepL_append_drop (L : List W3) (y : W3) (h : Int) (hy : h < y.h) : keepL (L ++ [y]) h = keepL L h := by
  simp [keepL, hy]

theorem keepL_append_stay (L : List W3) (y : W3) (h : Int) (hy : ¬ h < y.h) : keepL (L ++ [y]) h = L ++ [y] := by
  unfold keepL
  rw [List.reverse_append]
  simp only [List.reverse_cons, List.reverse_nil, List.nil_append, List.singleton_append]
  rw [List.dropWhile_cons_of_neg (by simpa using hy)]
  simp

theorem Stays.take_eq (L : List W3) (h : Int) : ∀ (r : Nat) (n : Nat), Stays L h n → r = L.length - n → L.take n = keepL L h := by
  intro r
  induction r generalizing L with
  | zero =>
    intro n ⟨h1, h2, h3⟩ hr
    have hn : n = L.length := by omega
    subst hn
    rw [List.take_length]
    rcases List.eq_nil_or_concat L with rfl | ⟨L', y, rfl⟩
    · rfl
    · have := h3 (by simp) (by simp)
      simp only [List.concat_eq_append, List.length_append, List.length_cons, List.length_nil, Nat.zero_add, Nat.add_sub_cancel, List.getElem_append_right (Nat.le_refl _), Nat.sub_self, List.getElem_cons_zero] at this ⊢
      rw [keepL_append_stay L' y h this]
  | succ r ih =>
    intro n ⟨h1, h2, h3⟩ hr
    rcases List.eq_nil_or_concat L with rfl | ⟨L', y, rfl⟩
    · simp at hr
    · rw [List.concat_eq_append] at h1 h2 h3 hr ⊢
      have hlen : (L' ++ [y]).length = L'.length + 1 := by simp
      have hy := h2 L'.length (by omega) (by omega)
      rw [List.getElem_append_right (Nat.le_refl _)] at hy
      simp only [Nat.sub_self, List.getElem_cons_zero] at hy
      rw [keepL_append_drop L' y h hy, List.take_append_of_le_length (by omega)]
      refine ih L' n ⟨by omega, ?_, ?_⟩ (by omega)
      · intro j hj hnj
        have := h2 j (by omega) hnj
        rwa [List.getElem_append_left hj] at this
      · intro hj hn
        have := h3 (by omega) hn
        rwa [List.getElem_append_left hj] at this

/-- the words that are picked, when one more stands for a window -/
def pickL (M : List W3) (x : W3) : List W3 :=
  match M.getLast? with
  | none => M ++ [x]
  | some y => if y.p = x.p then M else M ++ [x]

theorem pick_any (k W next run : Int) (x : W3) (base Bk : Nat) (ov pv : Value) (M : List W3) (hM2 : M.length < 4398046511104) (w : World)
    (hB : w.heap[Bk]? = some (.cells #[.int .i64 k, .int .i64 W, .int .i64 next, .int .i64 run, ov, pv] 103 (0, 0)))
    (hown : OwnR w base 50 3 pv M.length (wcells M)) (hbase : base ≤ w.heap.size) :
    Calls Try.prog 61 #[.pointer (some ⟨Bk, 0, none⟩), .agg #[.int .i64 x.h, .int .i64 x.p, .bool x.b]] w fun e w' => e = .returned (.tuple #[]) ∧
      ∃ pv', OwnR w' base 50 3 pv' (pickL M x).length (wcells (pickL M x)) ∧ w'.heap[Bk]? = some (.cells #[.int .i64 k, .int .i64 W, .int .i64 next, .int .i64 run, ov, pv'] 103 (0, 0)) ∧ PFr w w' pv pv' Bk := by
  have h := hown.2
  rcases List.eq_nil_or_concat M with rfl | ⟨M', y, hM⟩
  · have e : pickL [] x = [] ++ [x] := rfl
    rw [e]
    rcases h with ⟨rfl, _⟩ | ⟨g, o, cap, cur, rfl, _⟩
    · exact pick_nil k W next run x base Bk ov none 0 w hB hown hbase
    · exact pick_nil k W next run x base Bk ov (some ⟨g, o, none⟩) cap w hB hown hbase
  · rw [List.concat_eq_append] at hM
    have hlen : M.length = M'.length + 1 := by rw [hM]; simp
    have hlast : M.getLast? = some y := by rw [hM]; simp
    have hget : M[M.length - 1]'(by omega) = y := by
      subst hM
      simp
    rcases h with ⟨rfl, h0⟩ | ⟨g, o, cap, cur, rfl, _, hg, _, _, _, hcu⟩
    · omega
    · have hc : w.cell? ⟨g, o + (M.length - 1) * 3 + 1, none⟩ = some (.int .i64 y.p) := by
        have hk := (wcells_at M (M.length - 1) (by omega)).2.1
        rw [hget] at hk
        refine cell_at hg ?_
        have := hcu _ _ hk
        rwa [show o + (M.length - 1) * 3 + 1 = o + (3 * (M.length - 1) + 1) by omega]
      by_cases hp : y.p = x.p
      · have e : pickL M x = M := by simp [pickL, hlast, hp]
        rw [e]
        refine (pick_same k W next run x base Bk g o cap ov M (by omega) hM2 w hB hown hbase y.p hc (by simp [hp])).mono ?_
        rintro e w' ⟨rfl, h1, h2, h3⟩
        exact ⟨rfl, _, h1, h2, h3⟩
      · have e : pickL M x = M ++ [x] := by simp [pickL, hlast, hp]
        rw [e]
        exact pick_new k W next run x base Bk g o cap ov M (by omega) hM2 w hB hown hbase y.p hc (by simp [hp])

/-- where the window has moved to: the words that are still in it -/
def mvL (W : Int) (next place : Int) (L : List W3) : List W3 :=
  if place = next then (match L with | [] => [] | x :: t => if x.p ≤ place - W then t else x :: t) else []

theorem OwnR.cut0 {w : World} {base : Nat} {v : Value} {L : List W3} (h : OwnR w base 50 3 v L.length (wcells L)) : OwnR w base 50 3 (cut0 v) ([] : List W3).length (wcells []) ∧ (Ytilcmkiihefkkaa.cut0 v).ownBlock = v.ownBlock := by
  obtain ⟨_, h⟩ := h
  rcases h with ⟨rfl, h0⟩ | ⟨g, o, cap, cur, rfl, h1, h2, h3, h4, h5, h6⟩
  · exact ⟨OwnR.nil _ _ _ _, rfl⟩
  · exact ⟨⟨rfl, Or.inr ⟨g, o, cap, cur, rfl, h1, h2, Nat.zero_le _, h4, h5, fun j u hj => by simp [wcells] at hj⟩⟩, rfl⟩

theorem move_any (k W next run place : Int) (L : List W3) (base Bk : Nat) (ov pv : Value) (w : World)
    (hB : w.heap[Bk]? = some (.cells #[.int .i64 k, .int .i64 W, .int .i64 next, .int .i64 run, ov, pv] 103 (0, 0)))
    (hown : OwnR w base 50 3 ov L.length (wcells L))
    (hpl : 0 ≤ place) (hpl2 : place ≤ 140737488351232) (hrun : 0 ≤ run) (hrun2 : run ≤ 140737488351232) (hW : 1 ≤ W) (hW2 : W ≤ 20) :
    Calls Try.prog 58 #[.pointer (some ⟨Bk, 0, none⟩), .int .i64 place] w fun e w' => e = .returned (.tuple #[]) ∧ 
       ∃ ov', OwnR w base 50 3 ov' (mvL W next place L).length (wcells (mvL W next place L)) ∧ ov'.ownBlock = ov.ownBlock ∧
       Upd w w' Bk (.cells #[.int .i64 k, .int .i64 W, .int .i64 (place + 1), .int .i64 ((if place = next then run else 0) + 1), ov', pv] 103 (0, 0)) := by
  have h := hown.2
  by_cases heq : place = next
  · have hne : (place != next) = false := by simp [heq]
    rw [if_pos heq]
    cases L with
    | nil =>
      have e : mvL W next place [] = [] := by simp [mvL]
      rw [e]
      rcases h with ⟨rfl, h0⟩ | ⟨g, o, cap, cur, rfl, _⟩
      · refine (move_eq0 k W next run place Bk none 0 pv w hB hpl hpl2 hrun hrun2 hne).mono ?_
        rintro e w' ⟨rfl, hu⟩
        exact ⟨rfl, _, hown, rfl, hu⟩
      · refine (move_eq0 k W next run place Bk _ cap pv w hB hpl hpl2 hrun hrun2 hne).mono ?_
        rintro e w' ⟨rfl, hu⟩
        exact ⟨rfl, _, hown, rfl, hu⟩
    | cons x t =>
      rcases h with ⟨rfl, h0⟩ | ⟨g, o, cap, cur, rfl, h1, h2, h3, h4, h5, h6⟩
      · simp at h0
      · have hgB : g ≠ Bk := fun e => hown.tag (by decide) hB (by simp [Value.ownBlock, e])
        have hc : w.cell? ⟨g, o + 1, none⟩ = some (.int .i64 x.p) := cell_at h2 (h6 1 _ rfl)
        refine (move_eqn k W next run place Bk g o (x :: t).length cap pv w x.p hB (by simp) h3 h4 hc hpl hpl2 hrun hrun2 hW hW2 hne hgB).mono ?_
        rintro e w' ⟨rfl, ov', hov, hu⟩
        refine ⟨rfl, ov', ?_, ?_, hu⟩
        · rcases hov with ⟨hexp, h⟩ | ⟨hexp, rfl⟩
          · have e : mvL W next place (x :: t) = t := by simp only [mvL, if_pos heq, if_pos hexp]
            rw [e]
            refine ⟨wcells_length t, ?_⟩
            have hlen : (x :: t).length = t.length + 1 := rfl
            rcases h with rfl | ⟨hc1, rfl⟩
            · refine Or.inr ⟨g, o + 3, cap - 1, cur, rfl, h1, h2, by omega, by omega, by omega, ?_⟩
              intro j u hj
              have := h6 (j + 3) u (by rw [wcells_cons]; exact hj)
              rwa [show o + 3 + j = o + (j + 3) by omega]
            · have ht : t = [] := List.eq_nil_of_length_eq_zero (by omega)
              subst ht
              exact Or.inr ⟨g, o, 0, cur, rfl, h1, h2, Nat.le_refl _, Nat.zero_le _, by omega, fun j u hj => by simp [wcells] at hj⟩
          · have e : mvL W next place (x :: t) = x :: t := by simp only [mvL, if_pos heq, if_neg hexp]
            rw [e]
            exact hown
        · rcases hov with ⟨hexp, h⟩ | ⟨hexp, rfl⟩
          · rcases h with rfl | ⟨_, rfl⟩ <;> rfl
          · rfl
  · have hne : (place != next) = true := by simp [heq]
    rw [if_neg heq]
    have e : mvL W next place L = [] := by simp only [mvL, if_neg heq]
    rw [e]
    refine (move_ne k W next run place Bk ov pv w (by rcases h with ⟨rfl, _⟩ | ⟨g, o, cap, cur, rfl, _⟩; exact Or.inl rfl; exact Or.inr ⟨_, _, _, rfl⟩) hB hpl hpl2 hne).mono ?_
    rintro e w' ⟨rfl, hu⟩
    exact ⟨rfl, _, hown.cut0.1, hown.cut0.2, hu⟩
end Go.Proofs.Ytilcmkiihefkkaa
