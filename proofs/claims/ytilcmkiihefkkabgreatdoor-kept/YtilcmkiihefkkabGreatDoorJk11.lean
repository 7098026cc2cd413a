import Derived.Test.YtilcmkiihefkkabGreatDoorJk10
section
set_option linter.unusedVariables false
set_option linter.unusedSimpArgs false
set_option maxRecDepth 100000
namespace Go.Proofs.YtilcmkiihefkkabGreatDoor.Mn
open Go.RowKit
/-- the word of a code and of it turned, at a place -/
def wordOf (k : Nat) (place : Nat) (c t : Nat) : W3 := ⟨(hashN k (min c t) : Nat), place, decide (t < c)⟩
/-- the word, if it stands for something -/
def candOf (k : Nat) (place : Nat) (c t : Nat) : Option W3 := if c = t then none else some (wordOf k place c t)
/-- the words that may stand for windows, behind one more -/
def stepL (W next place : Int) (L : List W3) (x : Option W3) : List W3 :=
  match x with
  | none => mvL W next place L
  | some x => keepL (mvL W next place L) x.h ++ [x]
/-- how many words lie side by side, behind one more -/
def stepR (next run place : Int) : Int := (if place = next then run else 0) + 1
/-- the words that are picked, behind one more -/
def stepM (W run1 : Int) (L2 M : List W3) : List W3 :=
  if W ≤ run1 then (match L2 with | [] => M | x :: _ => pickL M x) else M
/-- the picker in memory -/
structure PI (w : World) (base Bk : Nat) (k W next run : Int) (L M : List W3) : Prop where
  low : base ≤ Bk
  ex : ∃ ov pv, w.heap[Bk]? = some (.cells #[.int .i64 k, .int .i64 W, .int .i64 next, .int .i64 run, ov, pv] 149 (0, 0)) ∧ OwnR w base 124 3 ov L.length (wcells L) ∧ OwnR w base 124 3 pv M.length (wcells M) ∧
    ∀ g, ov.ownBlock = some g → pv.ownBlock ≠ some g
/-- what a method of the picker leaves alone, as its callers ask it -/
structure PF (base : Nat) (w w' : World) : Prop where
  below : Below base w w'
  scan : ∀ (S : Nat) (cs : Array Value), w.heap[S]? = some (Obj.cells cs 152 (0, 0)) → w'.heap[S]? = some (Obj.cells cs 152 (0, 0))
theorem PF.trans {base : Nat} {a b c : World} (h : PF base a b) (k : PF base b c) : PF base a c := ⟨h.below.trans k.below, fun S cs hS => k.scan S cs (h.scan S cs hS)⟩
theorem PF.drewN {base : Nat} {a b : World} (h : PF base a b) (n : Nat) : PF base a (b.drewN n) := ⟨⟨h.below.os, h.below.tape, h.below.output, h.below.size, h.below.block⟩, h.scan⟩
theorem PF.of_upd {base : Nat} {w w' : World} {Bk : Nat} {cs cs' : Array Value} (hB : w.heap[Bk]? = some (.cells cs' 149 (0, 0))) (h : Upd w w' Bk (.cells cs 149 (0, 0))) (hb : base ≤ Bk) : PF base w w' :=
  ⟨h.below hb, fun S cs hS => by
    rw [h.other S (fun e => by subst e; rw [hS] at hB; simp at hB)]
    exact hS⟩
theorem PF.of_pfr {base : Nat} {w w' : World} {Bk : Nat} {cs' : Array Value} {v v' : Value} {n : Nat} {xs : List Value} (hB : w.heap[Bk]? = some (.cells cs' 149 (0, 0))) (ho : OwnR w base 124 3 v n xs) (hbw : base ≤ w.heap.size)
    (h : PFr w w' v v' Bk) (hb : base ≤ Bk) : PF base w w' :=
  ⟨⟨h.os, h.tape, h.output, h.size, fun k hk => h.other k (by omega) (by omega) (fun e => by have := ho.lt e; omega)⟩, fun S cs hS => by
    rw [h.other S (lt_of_block hS) (fun e => by subst e; rw [hS] at hB; simp at hB) (ho.tag (by decide) hS)]
    exact hS⟩
theorem PI.move {w w1 : World} {base Bk : Nat} {k W next run place : Int} {L M : List W3} {ov pv ov1 : Value} (hlow : base ≤ Bk)
    (hB : w.heap[Bk]? = some (.cells #[.int .i64 k, .int .i64 W, .int .i64 next, .int .i64 run, ov, pv] 149 (0, 0)))
    (hp : OwnR w base 124 3 pv M.length (wcells M)) (hd : ∀ g, ov.ownBlock = some g → pv.ownBlock ≠ some g)
    (ho : OwnR w base 124 3 ov1 (mvL W next place L).length (wcells (mvL W next place L))) (hob : ov1.ownBlock = ov.ownBlock)
    (hu : Upd w w1 Bk (.cells #[.int .i64 k, .int .i64 W, .int .i64 (place + 1), .int .i64 ((if place = next then run else 0) + 1), ov1, pv] 149 (0, 0))) :
    PI w1 base Bk k W (place + 1) (stepR next run place) (mvL W next place L) M ∧ PF base w w1 := by
  refine ⟨⟨hlow, ov1, pv, hu.here, ho.other (fun g hg _ => hu.other g (fun e => ho.tag (by decide) hB (by rw [hg, e]))), hp.other (fun g hg _ => hu.other g (fun e => hp.tag (by decide) hB (by rw [hg, e]))), fun g hg => hd g (by rw [← hob]; exact hg)⟩, PF.of_upd hB hu hlow⟩
theorem PI.add {w w' : World} {base Bk : Nat} {k W next run : Int} {L L' M : List W3} {ov pv ov' : Value} (hlow : base ≤ Bk) (hbw : base ≤ w.heap.size)
    (hB : w.heap[Bk]? = some (.cells #[.int .i64 k, .int .i64 W, .int .i64 next, .int .i64 run, ov, pv] 149 (0, 0)))
    (ho : OwnR w base 124 3 ov L.length (wcells L)) (hp : OwnR w base 124 3 pv M.length (wcells M)) (hd : ∀ g, ov.ownBlock = some g → pv.ownBlock ≠ some g)
    (ho' : OwnR w' base 124 3 ov' L'.length (wcells L')) (hB' : w'.heap[Bk]? = some (.cells #[.int .i64 k, .int .i64 W, .int .i64 next, .int .i64 run, ov', pv] 149 (0, 0))) (hf : PFr w w' ov ov' Bk) :
    PI w' base Bk k W next run L' M ∧ PF base w w' := by
  refine ⟨⟨hlow, ov', pv, hB', ho', hp.other (fun g hg hlt => hf.other g hlt (fun e => hp.tag (by decide) hB (by rw [hg, e])) (fun e => hd g e hg)), ?_⟩, PF.of_pfr hB ho hbw hf hlow⟩
  intro g hg e
  rcases hf.new g hg with h | h
  · exact hd g h e
  · have := (hp.lt e).2
    omega
theorem PI.pick {w w' : World} {base Bk : Nat} {k W next run : Int} {L M M' : List W3} {ov pv pv' : Value} (hlow : base ≤ Bk) (hbw : base ≤ w.heap.size)
    (hB : w.heap[Bk]? = some (.cells #[.int .i64 k, .int .i64 W, .int .i64 next, .int .i64 run, ov, pv] 149 (0, 0)))
    (ho : OwnR w base 124 3 ov L.length (wcells L)) (hp : OwnR w base 124 3 pv M.length (wcells M)) (hd : ∀ g, ov.ownBlock = some g → pv.ownBlock ≠ some g)
    (hp' : OwnR w' base 124 3 pv' M'.length (wcells M')) (hB' : w'.heap[Bk]? = some (.cells #[.int .i64 k, .int .i64 W, .int .i64 next, .int .i64 run, ov, pv'] 149 (0, 0))) (hf : PFr w w' pv pv' Bk) :
    PI w' base Bk k W next run L M' ∧ PF base w w' := by
  refine ⟨⟨hlow, ov, pv', hB', ho.other (fun g hg hlt => hf.other g hlt (fun e => ho.tag (by decide) hB (by rw [hg, e])) (fun e => hd g hg e)), hp', ?_⟩, PF.of_pfr hB hp hbw hf hlow⟩
  intro g hg e
  rcases hf.new g e with h | h
  · exact hd g hg h
  · have := (ho.lt hg).2
    omega
theorem keepL_length (L : List W3) (h : Int) : (keepL L h).length ≤ L.length := by
  unfold keepL
  rw [List.length_reverse]
  have := (List.dropWhile_sublist (fun y : W3 => decide (h < y.h)) (l := L.reverse)).length_le
  simpa using this
theorem mvL_length (W next place : Int) (L : List W3) : (mvL W next place L).length ≤ L.length := by
  unfold mvL
  split
  · split
    · simp
    · split
      · simp
      · exact Nat.le_refl _
  · simp
set_option maxHeartbeats 2000000 in
set_option maxRecDepth 100000 in
theorem word_lt (k W place c t : Nat) (next run : Int) (L M : List W3) (base Bk : Nat) (w : World)
    (hk1 : 1 ≤ k) (hk2 : k ≤ 12) (hc : c < 16777216) (ht : t < 16777216) (hW : 1 ≤ W) (hW2 : W ≤ 20) (hbase : base ≤ w.heap.size)
    (hPI : PI w base Bk k W next run L M) (hL : L.length < 4398046511000) (hM : M.length < 4398046511000)
    (hpl2 : (place : Int) ≤ 140737488350000) (hrun : 0 ≤ run) (hrun2 : run ≤ 140737488350000) (h : c < t) :
    Calls Tryz.prog 70 #[.pointer (some ⟨Bk, 0, none⟩), .int .i64 place, .int .u64 c, .int .u64 t] w fun e w' => e = .returned (.tuple #[]) ∧
      PI w' base Bk k W (place + 1) (stepR next run place) (stepL W next place L (candOf k place c t)) (stepM W (stepR next run place) (stepL W next place L (candOf k place c t)) M) ∧ PF base w w' := by
  obtain ⟨hlow, ov, pv, hB, hown, hownp, hd⟩ := hPI
  have hrb : 0 ≤ stepR next run place ∧ stepR next run place ≤ 140737488351232 := by unfold stepR; split <;> omega
  have hML := mvL_length W next place L
  obtain ⟨run1, hr1⟩ : ∃ r, r = stepR next run place := ⟨_, rfl⟩
  obtain ⟨L2, hL2⟩ : ∃ l, l = stepL W next place L (candOf k place c t) := ⟨_, rfl⟩
  rw [← hL2]
  have HR : Hid (run1 = stepR next run place) := hr1
  have HL2 : Hid (L2 = stepL W next place L (candOf k place c t)) := hL2
  rw [← hr1] at hrb ⊢
  clear hr1 hL2
  go_enter Tryz.func70, Tryz.ntmps70
  go_wp2_with fail
  refine (move_any k W next run place L base Bk ov pv w hB hown (by omega) (by omega) hrun (by omega) (by omega) (by omega)).mono ?_
  rintro e w1 ⟨rfl, ov1', hown1', hob, hu1⟩
  obtain ⟨⟨_, ov1, pv1, hB1, hown1, hownp1, hd1⟩, hpf1⟩ := PI.move hlow hB hownp hd hown1' hob hu1
  rw [← HR.out] at hB1
  clear hu1 hB hown hownp hd hown1' hob
  have hbase1 : base ≤ w1.heap.size := Nat.le_trans hbase hpf1.below.size
  have c0 : w1.cell? ⟨Bk, 0, none⟩ = some (.int .i64 k) := cell_at hB1 rfl
  have hne : ((c : Int) != t) = true := by simp; omega
  have h' : (c : Int) < t := by omega
  have hx : candOf k place c t = some ⟨(hashN k c : Nat), place, decide (t < c)⟩ := by
    unfold candOf wordOf
    rw [if_neg (by omega), Nat.min_eq_left (by omega)]
  have HX : Hid (L2 = keepL (mvL W next place L) (hashN k c : Nat) ++ [⟨(hashN k c : Nat), place, decide (t < c)⟩]) := by rw [HL2.out, hx]; rfl
  clear hx
  go_wp2_with fail
  refine (hash_any k c _ hk1 hk2 (by omega)).mono ?_
  rintro e w1' ⟨rfl, rfl⟩
  go_wp2_with fail
  refine (add_any k W (place + 1) run1 ⟨(hashN k c : Nat), place, decide (t < c)⟩ (mvL W next place L) base Bk ov1 pv1 _ hB1 hown1 hbase1 (by omega)).mono ?_
  rintro e w2 ⟨rfl, n, hst, ov2', ho2', hB2', hf2⟩
  rw [Stays.take_eq _ _ _ n hst rfl] at ho2'
  have hpi2 := PI.add hlow hbase1 hB1 hown1 hownp1 hd1 ho2' hB2' hf2
  rw [← HX.out] at hpi2
  obtain ⟨⟨_, ov2, pv2, hB2, ho2, hp2, hd2⟩, hpf2⟩ := hpi2
  clear ho2' hB2' hf2 hst hB1 hown1 hownp1 hd1 c0
  have hbase2 : base ≤ w2.heap.size := Nat.le_trans hbase1 hpf2.below.size
  have q1 : w2.cell? ⟨Bk, 1, none⟩ = some (.int .i64 W) := cell_at hB2 rfl
  have q3 : w2.cell? ⟨Bk, 3, none⟩ = some (.int .i64 run1) := cell_at hB2 rfl
  have q4 : w2.cell? ⟨Bk, 4, none⟩ = some ov2 := cell_at hB2 rfl
  have HB2 : Hid (w2.heap[Bk]? = some (.cells #[.int .i64 k, .int .i64 W, .int .i64 (place + 1), .int .i64 run1, ov2, pv2] 149 (0, 0))) := hB2
  clear hB2 HL2 HX
  have hpi : PI w2 base Bk k W (place + 1) run1 L2 M := ⟨hlow, ov2, pv2, HB2.out, ho2, hp2, hd2⟩
  by_cases hge : (W : Int) ≤ run1
  · rcases L2 with _ | ⟨x, tl⟩
    · have HM : Hid (stepM W run1 [] M = M) := by show _ = _; unfold stepM; rw [if_pos hge]
      obtain ⟨ao, cap, rfl⟩ : ∃ ao cap, ov2 = .slice ao 0 cap := by
        rcases ho2.2 with ⟨rfl, _⟩ | ⟨g, o, cap, cur, rfl, _⟩
        · exact ⟨_, _, rfl⟩
        · exact ⟨_, _, rfl⟩
      go_wp2
      go_quiet (fail)
      go_wp2
      go_end0
      exact ⟨rfl, by rw [HM.out]; exact ⟨hlow, hpi.ex⟩, hpf1.trans (hpf2.drewN _)⟩
    · have HM : Hid (stepM W run1 (x :: tl) M = pickL M x) := by show _ = _; unfold stepM; rw [if_pos hge]
      obtain ⟨g, o, cap, cur, hov, hg, hcu, hcp, hlc⟩ : ∃ g o cap cur, ov2 = .slice (some ⟨g, o, none⟩) (x :: tl).length cap ∧ w2.heap[g]? = some (.cells cur 124 (0, 0)) ∧ (∀ j u, (wcells (x :: tl))[j]? = some u → cur[o + j]? = some u) ∧ cap ≤ 9223372036854775807 ∧ (x :: tl).length ≤ cap := by
        rcases ho2.2 with ⟨_, h0⟩ | ⟨g, o, cap, cur, h1, h2, h3, h4, h5, h6, h7⟩
        · simp at h0
        · exact ⟨g, o, cap, cur, h1, h3, h7, h5, h4⟩
      subst hov
      have e0 : w2.cell? ⟨g, o, none⟩ = some (.int .i64 x.h) := cell_at hg (hcu 0 _ rfl)
      have e1 : w2.cell? ⟨g, o + 1, none⟩ = some (.int .i64 x.p) := cell_at hg (hcu 1 _ rfl)
      have e2 : w2.cell? ⟨g, o + 2, none⟩ = some (.bool x.b) := cell_at hg (hcu 2 _ rfl)
      have hlen0 : (0 : Int) < ((x :: tl).length : Nat) := by simp
      obtain ⟨n, hn⟩ : ∃ n, n = (x :: tl).length := ⟨_, rfl⟩
      rw [← hn] at q4 hlen0 hlc
      have HN : Hid (n = (x :: tl).length) := hn
      clear hn hg hcu
      go_wp2
      go_quiet (fail)
      go_wp2_with fail
      refine (pick_any k W (place + 1) run1 x base Bk _ pv2 M (by omega) (w2.drewN _) HB2.out hp2 hbase2).mono ?_
      rintro e w3 ⟨rfl, pv3, hp3, hB3, hf3⟩
      have hpi3 := PI.pick (w := w2.drewN _) hlow hbase2 HB2.out ho2 hp2 hd2 hp3 hB3 hf3
      clear hp3 hB3 hf3
      go_wp2
      go_end0
      exact ⟨rfl, by rw [HM.out]; exact hpi3.1, hpf1.trans (PF.trans ⟨hpf2.below, hpf2.scan⟩ ⟨⟨hpi3.2.below.os, hpi3.2.below.tape, hpi3.2.below.output, hpi3.2.below.size, hpi3.2.below.block⟩, hpi3.2.scan⟩)⟩
  · have HM : Hid (stepM W run1 L2 M = M) := by show _ = _; unfold stepM; rw [if_neg hge]
    have hgd : decide ((W : Int) ≤ run1) = false := by simpa using hge
    go_wp2
    go_quiet (fail)
    go_wp2
    go_end0
    exact ⟨rfl, by rw [HM.out]; exact ⟨hlow, hpi.ex⟩, hpf1.trans (hpf2.drewN _)⟩
set_option maxHeartbeats 2000000 in
set_option maxRecDepth 100000 in
theorem word_gt (k W place c t : Nat) (next run : Int) (L M : List W3) (base Bk : Nat) (w : World)
    (hk1 : 1 ≤ k) (hk2 : k ≤ 12) (hc : c < 16777216) (ht : t < 16777216) (hW : 1 ≤ W) (hW2 : W ≤ 20) (hbase : base ≤ w.heap.size)
    (hPI : PI w base Bk k W next run L M) (hL : L.length < 4398046511000) (hM : M.length < 4398046511000)
    (hpl2 : (place : Int) ≤ 140737488350000) (hrun : 0 ≤ run) (hrun2 : run ≤ 140737488350000) (h : t < c) :
    Calls Tryz.prog 70 #[.pointer (some ⟨Bk, 0, none⟩), .int .i64 place, .int .u64 c, .int .u64 t] w fun e w' => e = .returned (.tuple #[]) ∧
      PI w' base Bk k W (place + 1) (stepR next run place) (stepL W next place L (candOf k place c t)) (stepM W (stepR next run place) (stepL W next place L (candOf k place c t)) M) ∧ PF base w w' := by
  obtain ⟨hlow, ov, pv, hB, hown, hownp, hd⟩ := hPI
  have hrb : 0 ≤ stepR next run place ∧ stepR next run place ≤ 140737488351232 := by unfold stepR; split <;> omega
  have hML := mvL_length W next place L
  obtain ⟨run1, hr1⟩ : ∃ r, r = stepR next run place := ⟨_, rfl⟩
  obtain ⟨L2, hL2⟩ : ∃ l, l = stepL W next place L (candOf k place c t) := ⟨_, rfl⟩
  rw [← hL2]
  have HR : Hid (run1 = stepR next run place) := hr1
  have HL2 : Hid (L2 = stepL W next place L (candOf k place c t)) := hL2
  rw [← hr1] at hrb ⊢
  clear hr1 hL2
  go_enter Tryz.func70, Tryz.ntmps70
  go_wp2_with fail
  refine (move_any k W next run place L base Bk ov pv w hB hown (by omega) (by omega) hrun (by omega) (by omega) (by omega)).mono ?_
  rintro e w1 ⟨rfl, ov1', hown1', hob, hu1⟩
  obtain ⟨⟨_, ov1, pv1, hB1, hown1, hownp1, hd1⟩, hpf1⟩ := PI.move hlow hB hownp hd hown1' hob hu1
  rw [← HR.out] at hB1
  clear hu1 hB hown hownp hd hown1' hob
  have hbase1 : base ≤ w1.heap.size := Nat.le_trans hbase hpf1.below.size
  have c0 : w1.cell? ⟨Bk, 0, none⟩ = some (.int .i64 k) := cell_at hB1 rfl
  have hne : ((c : Int) != t) = true := by simp; omega
  have h' : (t : Int) < c := by omega
  have hx : candOf k place c t = some ⟨(hashN k t : Nat), place, true⟩ := by
    unfold candOf wordOf
    rw [if_neg (by omega), Nat.min_eq_right (by omega), decide_eq_true (by omega)]
  have HX : Hid (L2 = keepL (mvL W next place L) (hashN k t : Nat) ++ [⟨(hashN k t : Nat), place, true⟩]) := by rw [HL2.out, hx]; rfl
  clear hx
  go_wp2_with fail
  refine (hash_any k t _ hk1 hk2 (by omega)).mono ?_
  rintro e w1' ⟨rfl, rfl⟩
  go_wp2_with fail
  refine (add_any k W (place + 1) run1 ⟨(hashN k t : Nat), place, true⟩ (mvL W next place L) base Bk ov1 pv1 _ hB1 hown1 hbase1 (by omega)).mono ?_
  rintro e w2 ⟨rfl, n, hst, ov2', ho2', hB2', hf2⟩
  rw [Stays.take_eq _ _ _ n hst rfl] at ho2'
  have hpi2 := PI.add hlow hbase1 hB1 hown1 hownp1 hd1 ho2' hB2' hf2
  rw [← HX.out] at hpi2
  obtain ⟨⟨_, ov2, pv2, hB2, ho2, hp2, hd2⟩, hpf2⟩ := hpi2
  clear ho2' hB2' hf2 hst hB1 hown1 hownp1 hd1 c0
  have hbase2 : base ≤ w2.heap.size := Nat.le_trans hbase1 hpf2.below.size
  have q1 : w2.cell? ⟨Bk, 1, none⟩ = some (.int .i64 W) := cell_at hB2 rfl
  have q3 : w2.cell? ⟨Bk, 3, none⟩ = some (.int .i64 run1) := cell_at hB2 rfl
  have q4 : w2.cell? ⟨Bk, 4, none⟩ = some ov2 := cell_at hB2 rfl
  have HB2 : Hid (w2.heap[Bk]? = some (.cells #[.int .i64 k, .int .i64 W, .int .i64 (place + 1), .int .i64 run1, ov2, pv2] 149 (0, 0))) := hB2
  clear hB2 HL2 HX
  have hpi : PI w2 base Bk k W (place + 1) run1 L2 M := ⟨hlow, ov2, pv2, HB2.out, ho2, hp2, hd2⟩
  by_cases hge : (W : Int) ≤ run1
  · rcases L2 with _ | ⟨x, tl⟩
    · have HM : Hid (stepM W run1 [] M = M) := by show _ = _; unfold stepM; rw [if_pos hge]
      obtain ⟨ao, cap, rfl⟩ : ∃ ao cap, ov2 = .slice ao 0 cap := by
        rcases ho2.2 with ⟨rfl, _⟩ | ⟨g, o, cap, cur, rfl, _⟩
        · exact ⟨_, _, rfl⟩
        · exact ⟨_, _, rfl⟩
      go_wp2
      go_quiet (fail)
      go_wp2
      go_end0
      exact ⟨rfl, by rw [HM.out]; exact ⟨hlow, hpi.ex⟩, hpf1.trans (hpf2.drewN _)⟩
    · have HM : Hid (stepM W run1 (x :: tl) M = pickL M x) := by show _ = _; unfold stepM; rw [if_pos hge]
      obtain ⟨g, o, cap, cur, hov, hg, hcu, hcp, hlc⟩ : ∃ g o cap cur, ov2 = .slice (some ⟨g, o, none⟩) (x :: tl).length cap ∧ w2.heap[g]? = some (.cells cur 124 (0, 0)) ∧ (∀ j u, (wcells (x :: tl))[j]? = some u → cur[o + j]? = some u) ∧ cap ≤ 9223372036854775807 ∧ (x :: tl).length ≤ cap := by
        rcases ho2.2 with ⟨_, h0⟩ | ⟨g, o, cap, cur, h1, h2, h3, h4, h5, h6, h7⟩
        · simp at h0
        · exact ⟨g, o, cap, cur, h1, h3, h7, h5, h4⟩
      subst hov
      have e0 : w2.cell? ⟨g, o, none⟩ = some (.int .i64 x.h) := cell_at hg (hcu 0 _ rfl)
      have e1 : w2.cell? ⟨g, o + 1, none⟩ = some (.int .i64 x.p) := cell_at hg (hcu 1 _ rfl)
      have e2 : w2.cell? ⟨g, o + 2, none⟩ = some (.bool x.b) := cell_at hg (hcu 2 _ rfl)
      have hlen0 : (0 : Int) < ((x :: tl).length : Nat) := by simp
      obtain ⟨n, hn⟩ : ∃ n, n = (x :: tl).length := ⟨_, rfl⟩
      rw [← hn] at q4 hlen0 hlc
      have HN : Hid (n = (x :: tl).length) := hn
      clear hn hg hcu
      go_wp2
      go_quiet (fail)
      go_wp2_with fail
      refine (pick_any k W (place + 1) run1 x base Bk _ pv2 M (by omega) (w2.drewN _) HB2.out hp2 hbase2).mono ?_
      rintro e w3 ⟨rfl, pv3, hp3, hB3, hf3⟩
      have hpi3 := PI.pick (w := w2.drewN _) hlow hbase2 HB2.out ho2 hp2 hd2 hp3 hB3 hf3
      clear hp3 hB3 hf3
      go_wp2
      go_end0
      exact ⟨rfl, by rw [HM.out]; exact hpi3.1, hpf1.trans (PF.trans ⟨hpf2.below, hpf2.scan⟩ ⟨⟨hpi3.2.below.os, hpi3.2.below.tape, hpi3.2.below.output, hpi3.2.below.size, hpi3.2.below.block⟩, hpi3.2.scan⟩)⟩
  · have HM : Hid (stepM W run1 L2 M = M) := by show _ = _; unfold stepM; rw [if_neg hge]
    have hgd : decide ((W : Int) ≤ run1) = false := by simpa using hge
    go_wp2
    go_quiet (fail)
    go_wp2
    go_end0
    exact ⟨rfl, by rw [HM.out]; exact ⟨hlow, hpi.ex⟩, hpf1.trans (hpf2.drewN _)⟩
set_option maxHeartbeats 2000000 in
set_option maxRecDepth 100000 in
theorem word_eq (k W place c t : Nat) (next run : Int) (L M : List W3) (base Bk : Nat) (w : World)
    (hk1 : 1 ≤ k) (hk2 : k ≤ 12) (hc : c < 16777216) (ht : t < 16777216) (hW : 1 ≤ W) (hW2 : W ≤ 20) (hbase : base ≤ w.heap.size)
    (hPI : PI w base Bk k W next run L M) (hL : L.length < 4398046511000) (hM : M.length < 4398046511000)
    (hpl2 : (place : Int) ≤ 140737488350000) (hrun : 0 ≤ run) (hrun2 : run ≤ 140737488350000) (h : c = t) :
    Calls Tryz.prog 70 #[.pointer (some ⟨Bk, 0, none⟩), .int .i64 place, .int .u64 c, .int .u64 t] w fun e w' => e = .returned (.tuple #[]) ∧
      PI w' base Bk k W (place + 1) (stepR next run place) (stepL W next place L (candOf k place c t)) (stepM W (stepR next run place) (stepL W next place L (candOf k place c t)) M) ∧ PF base w w' := by
  obtain ⟨hlow, ov, pv, hB, hown, hownp, hd⟩ := hPI
  have hrb : 0 ≤ stepR next run place ∧ stepR next run place ≤ 140737488351232 := by unfold stepR; split <;> omega
  have hML := mvL_length W next place L
  obtain ⟨run1, hr1⟩ : ∃ r, r = stepR next run place := ⟨_, rfl⟩
  obtain ⟨L2, hL2⟩ : ∃ l, l = stepL W next place L (candOf k place c t) := ⟨_, rfl⟩
  rw [← hL2]
  have HR : Hid (run1 = stepR next run place) := hr1
  have HL2 : Hid (L2 = stepL W next place L (candOf k place c t)) := hL2
  rw [← hr1] at hrb ⊢
  clear hr1 hL2
  go_enter Tryz.func70, Tryz.ntmps70
  go_wp2_with fail
  refine (move_any k W next run place L base Bk ov pv w hB hown (by omega) (by omega) hrun (by omega) (by omega) (by omega)).mono ?_
  rintro e w1 ⟨rfl, ov1', hown1', hob, hu1⟩
  obtain ⟨⟨_, ov1, pv1, hB1, hown1, hownp1, hd1⟩, hpf1⟩ := PI.move hlow hB hownp hd hown1' hob hu1
  rw [← HR.out] at hB1
  clear hu1 hB hown hownp hd hown1' hob
  have hbase1 : base ≤ w1.heap.size := Nat.le_trans hbase hpf1.below.size
  have c0 : w1.cell? ⟨Bk, 0, none⟩ = some (.int .i64 k) := cell_at hB1 rfl
  have hne : ((c : Int) != t) = false := by simp; omega
  have hx : candOf k place c t = none := by
    unfold candOf
    rw [if_pos h]
  have HX : Hid (L2 = mvL W next place L) := by rw [HL2.out, hx]; rfl
  clear hx
  obtain ⟨w2, ov2, pv2, hw2, hov2, hpv2⟩ : ∃ w2 ov2 pv2, w2 = w1 ∧ ov2 = ov1 ∧ pv2 = pv1 := ⟨_, _, _, rfl, rfl, rfl⟩
  subst hw2 hov2 hpv2
  have hB2 := hB1
  have ho2 : OwnR w2 base 124 3 ov2 L2.length (wcells L2) := by rw [HX.out]; exact hown1
  have hp2 := hownp1
  have hd2 := hd1
  have hpf2 : PF base w2 w2 := ⟨Below.refl _ _, fun _ _ h => h⟩
  clear hB1 hown1 hownp1 hd1 c0
  have hbase2 : base ≤ w2.heap.size := Nat.le_trans hbase1 hpf2.below.size
  have q1 : w2.cell? ⟨Bk, 1, none⟩ = some (.int .i64 W) := cell_at hB2 rfl
  have q3 : w2.cell? ⟨Bk, 3, none⟩ = some (.int .i64 run1) := cell_at hB2 rfl
  have q4 : w2.cell? ⟨Bk, 4, none⟩ = some ov2 := cell_at hB2 rfl
  have HB2 : Hid (w2.heap[Bk]? = some (.cells #[.int .i64 k, .int .i64 W, .int .i64 (place + 1), .int .i64 run1, ov2, pv2] 149 (0, 0))) := hB2
  clear hB2 HL2 HX
  have hpi : PI w2 base Bk k W (place + 1) run1 L2 M := ⟨hlow, ov2, pv2, HB2.out, ho2, hp2, hd2⟩
  by_cases hge : (W : Int) ≤ run1
  · rcases L2 with _ | ⟨x, tl⟩
    · have HM : Hid (stepM W run1 [] M = M) := by show _ = _; unfold stepM; rw [if_pos hge]
      obtain ⟨ao, cap, rfl⟩ : ∃ ao cap, ov2 = .slice ao 0 cap := by
        rcases ho2.2 with ⟨rfl, _⟩ | ⟨g, o, cap, cur, rfl, _⟩
        · exact ⟨_, _, rfl⟩
        · exact ⟨_, _, rfl⟩
      go_wp2
      go_quiet (fail)
      go_wp2
      go_end0
      exact ⟨rfl, by rw [HM.out]; exact ⟨hlow, hpi.ex⟩, hpf1.trans (hpf2.drewN _)⟩
    · have HM : Hid (stepM W run1 (x :: tl) M = pickL M x) := by show _ = _; unfold stepM; rw [if_pos hge]
      obtain ⟨g, o, cap, cur, hov, hg, hcu, hcp, hlc⟩ : ∃ g o cap cur, ov2 = .slice (some ⟨g, o, none⟩) (x :: tl).length cap ∧ w2.heap[g]? = some (.cells cur 124 (0, 0)) ∧ (∀ j u, (wcells (x :: tl))[j]? = some u → cur[o + j]? = some u) ∧ cap ≤ 9223372036854775807 ∧ (x :: tl).length ≤ cap := by
        rcases ho2.2 with ⟨_, h0⟩ | ⟨g, o, cap, cur, h1, h2, h3, h4, h5, h6, h7⟩
        · simp at h0
        · exact ⟨g, o, cap, cur, h1, h3, h7, h5, h4⟩
      subst hov
      have e0 : w2.cell? ⟨g, o, none⟩ = some (.int .i64 x.h) := cell_at hg (hcu 0 _ rfl)
      have e1 : w2.cell? ⟨g, o + 1, none⟩ = some (.int .i64 x.p) := cell_at hg (hcu 1 _ rfl)
      have e2 : w2.cell? ⟨g, o + 2, none⟩ = some (.bool x.b) := cell_at hg (hcu 2 _ rfl)
      have hlen0 : (0 : Int) < ((x :: tl).length : Nat) := by simp
      obtain ⟨n, hn⟩ : ∃ n, n = (x :: tl).length := ⟨_, rfl⟩
      rw [← hn] at q4 hlen0 hlc
      have HN : Hid (n = (x :: tl).length) := hn
      clear hn hg hcu
      go_wp2
      go_quiet (fail)
      go_wp2_with fail
      refine (pick_any k W (place + 1) run1 x base Bk _ pv2 M (by omega) (w2.drewN _) HB2.out hp2 hbase2).mono ?_
      rintro e w3 ⟨rfl, pv3, hp3, hB3, hf3⟩
      have hpi3 := PI.pick (w := w2.drewN _) hlow hbase2 HB2.out ho2 hp2 hd2 hp3 hB3 hf3
      clear hp3 hB3 hf3
      go_wp2
      go_end0
      exact ⟨rfl, by rw [HM.out]; exact hpi3.1, hpf1.trans (PF.trans ⟨hpf2.below, hpf2.scan⟩ ⟨⟨hpi3.2.below.os, hpi3.2.below.tape, hpi3.2.below.output, hpi3.2.below.size, hpi3.2.below.block⟩, hpi3.2.scan⟩)⟩
  · have HM : Hid (stepM W run1 L2 M = M) := by show _ = _; unfold stepM; rw [if_neg hge]
    have hgd : decide ((W : Int) ≤ run1) = false := by simpa using hge
    go_wp2
    go_quiet (fail)
    go_wp2
    go_end0
    exact ⟨rfl, by rw [HM.out]; exact ⟨hlow, hpi.ex⟩, hpf1.trans (hpf2.drewN _)⟩
theorem word_any (k W place c t : Nat) (next run : Int) (L M : List W3) (base Bk : Nat) (w : World)
    (hk1 : 1 ≤ k) (hk2 : k ≤ 12) (hc : c < 16777216) (ht : t < 16777216) (hW : 1 ≤ W) (hW2 : W ≤ 20) (hbase : base ≤ w.heap.size)
    (hPI : PI w base Bk k W next run L M) (hL : L.length < 4398046511000) (hM : M.length < 4398046511000)
    (hpl2 : (place : Int) ≤ 140737488350000) (hrun : 0 ≤ run) (hrun2 : run ≤ 140737488350000) :
    Calls Tryz.prog 70 #[.pointer (some ⟨Bk, 0, none⟩), .int .i64 place, .int .u64 c, .int .u64 t] w fun e w' => e = .returned (.tuple #[]) ∧
      PI w' base Bk k W (place + 1) (stepR next run place) (stepL W next place L (candOf k place c t)) (stepM W (stepR next run place) (stepL W next place L (candOf k place c t)) M) ∧ PF base w w' := by
  rcases Nat.lt_trichotomy c t with h | h | h
  · exact word_lt k W place c t next run L M base Bk w hk1 hk2 hc ht hW hW2 hbase hPI hL hM hpl2 hrun hrun2 h
  · exact word_eq k W place c t next run L M base Bk w hk1 hk2 hc ht hW hW2 hbase hPI hL hM hpl2 hrun hrun2 h
  · exact word_gt k W place c t next run L M base Bk w hk1 hk2 hc ht hW hW2 hbase hPI hL hM hpl2 hrun hrun2 h
end Go.Proofs.YtilcmkiihefkkabGreatDoor.Mn
end
section
set_option linter.unusedVariables false
set_option linter.unusedSimpArgs false
set_option maxRecDepth 100000
namespace Go.Proofs.YtilcmkiihefkkabGreatDoor.Mn
open Go.RowKit
/-- where a slice begins -/
def offOf : Value → Nat
  | .slice (some a) _ _ => a.off
  | _ => 0
/-- what an append leaves alone, cell by cell -/
structure AppFr2 (w w' : World) (v : Value) (n size g' o' : Nat) : Prop where
  fr : AppFr w w' v g'
  blk : ∀ (b : Nat) (cur : Array Value) (t : TypeId), w.heap[b]? = some (Obj.cells cur t (0, 0)) → ∃ cur' : Array Value, w'.heap[b]? = some (Obj.cells cur' t (0, 0)) ∧ cur'.size = cur.size ∧ ∀ off, (v.ownBlock = some b → off < offOf v + n * size) → cur'[off]? = cur[off]?
  off : v.ownBlock = some g' → o' = offOf v
/-- a slice that lies ahead of what is appended, or elsewhere, reads as it did -/
theorem OwnR.app {w w' : World} {base : Nat} {e : TypeId} {size : Nat} {u : Value} {nu : Nat} {xs : List Value} {v : Value} {n sz g' o' : Nat} (h : OwnR w base e size u nu xs) (hf : AppFr2 w w' v n sz g' o')
    (hc : ∀ g, u.ownBlock = some g → v.ownBlock = some g → offOf u + nu * size ≤ offOf v + n * sz) : OwnR w' base e size u nu xs := by
  obtain ⟨h0, h⟩ := h
  refine ⟨h0, ?_⟩
  rcases h with ⟨rfl, rfl⟩ | ⟨g, o, cap, cur, rfl, h1, h2, h3, h4, h5, h6⟩
  · exact Or.inl ⟨rfl, rfl⟩
  · obtain ⟨cur', q1, q2, q3⟩ := hf.blk g cur e h2
    refine Or.inr ⟨g, o, cap, cur', rfl, h1, q1, h3, h4, by omega, fun j x hj => ?_⟩
    have hjl : j < xs.length := by
      rcases Nat.lt_or_ge j xs.length with h | h
      · exact h
      · rw [List.getElem?_eq_none h] at hj; exact absurd hj (by simp)
    rw [q3 (o + j) (fun hv => ?_)]
    · exact h6 j x hj
    · have := hc g rfl hv
      have e : offOf (.slice (some ⟨g, o, none⟩) nu cap) = o := rfl
      rw [e] at this
      omega
end Go.Proofs.YtilcmkiihefkkabGreatDoor.Mn
end
