import Derived.Test.YtilcmkiihefkkabGreatDoorJk13
import Derived.Test.YtilcmkiihefkkabGreatDoorJk20
import Derived.Test.YtilcmkiihefkkabGreatDoorJk5
section
set_option linter.unusedVariables false
set_option linter.unusedSimpArgs false
set_option maxRecDepth 100000
namespace Go.Proofs.YtilcmkiihefkkabGreatDoor.Mn
open Go.RowKit Go.Maps
/-- the words of bases -/
def wds (k W : Nat) (s : ByteArray) : List W3 := (scRun k W s.data.toList s.size).M
/-- rows of words stay -/
def WKeep (w w' : World) : Prop := ∀ (g : Nat) (cs : Array Value), w.heap[g]? = some (Obj.cells cs 124 (0, 0)) → w'.heap[g]? = w.heap[g]?
theorem WKeep.trans {a b c : World} (h : WKeep a b) (k : WKeep b c) : WKeep a c := fun g cs hg => (k g cs ((h g cs hg).trans hg)).trans (h g cs hg)
theorem WKeep.below {a b : World} (h : Below a.heap.size a b) : WKeep a b := fun g cs hg => h.block g (lt_of_block hg)
theorem word_cells (L : List W3) (g o : Nat) (cur : Array Value) (w : World) (hg : w.heap[g]? = some (.cells cur 124 (0, 0))) (hc : ∀ j u, (wcells L)[j]? = some u → cur[o + j]? = some u) (j : Nat) (hj : j < L.length) :
    w.cell? ⟨g, o + j * 3, none⟩ = some (.int .i64 L[j].h) ∧ w.cell? ⟨g, o + j * 3 + 1, none⟩ = some (.int .i64 L[j].p) ∧ w.cell? ⟨g, o + j * 3 + 2, none⟩ = some (.bool L[j].b) := by
  have := wcells_at L j hj
  rw [Nat.mul_comm 3 j] at this
  exact ⟨cell_at hg (hc _ _ this.1), cell_at hg (hc _ _ this.2.1), cell_at hg (hc _ _ this.2.2)⟩
def ixC (k W : Nat) (sc : Nat) (rv mv : Value) : Array Value := #[.int .i64 k, .int .i64 W, .float .f64 sc, rv, mv]
set_option maxHeartbeats 4000000 in
theorem eachWord_any (F : Nat) (hF : ∀ args w, (callFunc F args).run Tryz.prog w = .ok (.enter F args) w) (r : Value) (s : ByteArray) (X k W sc : Nat) (rv mv : Value) (w : World) (hs : s.size ≤ 4398046510000) (hk1 : 1 ≤ k) (hk2 : k ≤ 12) (hW : 1 ≤ W) (hW2 : W ≤ 20) (hg : good s)
    (hX : w.heap[X]? = some (.cells (ixC k W sc rv mv) 59 (0, 0))) (I : Nat → World → Prop)
    (hI : ∀ i (hi : i < (wds k W s).length) wr, I i wr → Calls Tryz.prog F #[r, .agg #[.int .i64 (wds k W s)[i].h, .int .i64 (wds k W s)[i].p, .bool (wds k W s)[i].b]] wr fun e w' => e = .returned (.tuple #[]) ∧ I (i + 1) w' ∧ WKeep wr w')
    (hA : ∀ i wr w', I i wr → Below wr.heap.size wr w' → I i w') (h0 : I 0 w) (hlen : (wds k W s).length < 4398046511104) :
    Calls Tryz.prog 33 #[.pointer (some ⟨X, 0, none⟩), .string s, .func (.func F) #[r] #[]] w fun e w' => e = .returned (.tuple #[]) ∧ I (wds k W s).length w' := by
  have c0 : w.cell? ⟨X, 0, none⟩ = some (.int .i64 k) := cell_at hX rfl
  have c1 : w.cell? ⟨X, 1, none⟩ = some (.int .i64 W) := cell_at hX rfl
  have HI : Hid (∀ i (hi : i < (wds k W s).length) wr, I i wr → Calls Tryz.prog F #[r, .agg #[.int .i64 (wds k W s)[i].h, .int .i64 (wds k W s)[i].p, .bool (wds k W s)[i].b]] wr fun e w' => e = .returned (.tuple #[]) ∧ I (i + 1) w' ∧ WKeep wr w') := hI
  have HA : Hid (∀ i wr w', I i wr → Below wr.heap.size wr w' → I i w') := hA
  have H0 : Hid (I 0 w) := h0
  clear hI hA h0 hX
  obtain ⟨L, hL⟩ : ∃ L, L = wds k W s := ⟨_, rfl⟩
  rw [← hL] at HI hlen ⊢
  have HL : Hid ((scRun k W s.data.toList s.size).M = L) := hL.symm
  clear hL
  go_enter Tryz.func33, Tryz.ntmps33
  refine wp_seq ?_
  refine wp_region_X 17 (fun W' => W'.cell? ⟨X, 0, none⟩ = some (.int .i64 k) ∧ W'.cell? ⟨X, 1, none⟩ = some (.int .i64 W)) (by kernel_rfl) ⟨c0, c1⟩ (fun hH => ?_)
  refine wpZ 0 hH ?_
  refine wpZ 1 hH ?_
  refine wpZ 2 hH ?_
  refine wpZ 3 hH ?_
  refine wpZ 4 hH ?_
  refine wpZ 5 hH ?_
  refine wpZ 6 hH ?_
  refine wpZ 7 hH ?_
  refine wpZ 8 hH ?_
  refine wpZ 9 hH ?_
  refine wpZ 10 hH ?_
  refine wpAnyX_step (i := 11) (by kernel_rfl) rfl (by kernel_rfl) (fun K hK => ?_)
  go_simp
  go_at_call 52
  refine (words_any s k W _ hs hk1 hk2 hW hW2).mono ?_
  rintro e w1 ⟨⟨_, pv, rfl, hown⟩ | ⟨hbad, _⟩, hb⟩
  rotate_left
  · exact absurd hg hbad
  rw [HL.out] at hown
  have hb1 : Below w.heap.size w w1 := ⟨hb.os, hb.tape, hb.output, hb.size, hb.block⟩
  have hXl : X < w.heap.size := by
    rcases Nat.lt_or_ge X w.heap.size with h | h
    · exact h
    · simp [World.cell?, Array.getElem?_eq_none h] at c0
  refine hK.out _ _ ⟨(World.cell?_of_block (hb1.block X hXl)).trans c0, (World.cell?_of_block (hb1.block X hXl)).trans c1⟩ ?_
  clear hK K hH
  have hH : w1.cell? ⟨X, 0, none⟩ = some (.int .i64 k) ∧ w1.cell? ⟨X, 1, none⟩ = some (.int .i64 W) := ⟨(World.cell?_of_block (hb1.block X hXl)).trans c0, (World.cell?_of_block (hb1.block X hXl)).trans c1⟩
  try simp only [Act.put, zA0, zZ0, zS0]
  refine wpZ 12 hH ?_
  refine wpZ 13 hH ?_
  refine wpZ 14 hH ?_
  refine wpZ 15 hH ?_
  refine wpZ 16 hH ?_
  refine wpAnyX_done (by kernel_rfl) ?_
  show Code.wp _ _ _ _ _
  obtain ⟨n, hn⟩ : ∃ n, n = L.length := ⟨_, rfl⟩
  have HN : Hid (n = L.length) := hn
  rw [← hn] at hlen hown ⊢
  obtain ⟨ao, cp, rfl, hsome⟩ : ∃ ao cp, pv = .slice ao n cp ∧ (n ≠ 0 → ∃ g o cur, ao = some ⟨g, o, none⟩ ∧ w1.heap[g]? = some (.cells cur 124 (0, 0)) ∧ ∀ j u, (wcells L)[j]? = some u → cur[o + j]? = some u) := by
    rcases hown.2 with ⟨h, h0⟩ | ⟨g, o, cap, cur, h, _, hg, _, _, _, hc⟩
    · exact ⟨none, 0, by rw [h, h0], fun h' => absurd h0 h'⟩
    · exact ⟨_, _, h, fun _ => ⟨g, o, cur, rfl, hg, hc⟩⟩
  have HS : Hid (n ≠ 0 → ∃ g o cur, ao = some ⟨g, o, none⟩ ∧ w1.heap[g]? = some (Obj.cells cur 124 (0, 0)) ∧ ∀ j u, (wcells L)[j]? = some u → cur[o + j]? = some u) := hsome
  have hI1 : Hid (I 0 w1) := HA.out 0 w w1 H0.out hb1
  have HB1 : Hid (Below w.heap.size w w1) := hb1
  clear hsome hown hn hH c0 c1 hb hb1
  go_wp2
  go_loopw [27] (fun i wr => ∃ j : Nat, j ≤ n ∧ i = .int .i64 j ∧ I j wr ∧ WKeep w1 wr) (fun i _ => n - (RowKit.intOf i).toNat)
  case atStart => exact ⟨0, Nat.zero_le _, rfl, hI1.out, fun _ _ _ => rfl⟩
  case round =>
    obtain ⟨j, hj, rfl, hIj, hwk⟩ := hrel
    have HWK : Hid (WKeep w1 wr) := hwk
    have HIJ : Hid (I j wr) := hIj
    clear hwk hIj
    by_cases hlt : j < n
    · obtain ⟨g, o, cur, rfl, hgc, hcc⟩ := HS.out (by omega)
      have hgr : wr.heap[g]? = some (Obj.cells cur 124 (0, 0)) := (HWK.out g cur hgc).trans hgc
      have hjL : j < L.length := by have := HN.out; omega
      obtain ⟨x, hx⟩ : ∃ x, x = L[j] := ⟨_, rfl⟩
      obtain ⟨d0, d1, d2⟩ := word_cells L g o cur wr hgr hcc j hjL
      rw [← hx] at d0 d1 d2
      have HX : Hid (x = L[j]) := hx
      clear hx
      go_wp2_with fail
      have hbl : Below wr.heap.size wr (wr.alloc (Obj.cells #[Value.int IntKind.i64 x.h, Value.int IntKind.i64 x.p, Value.bool x.b] 124)) := (Below.refl _ _).alloc (Nat.le_refl _) _
      have hcall := HI.out j hjL _ (HA.out j wr _ HIJ.out hbl)
      rw [← HX.out] at hcall
      refine hcall.mono ?_
      rintro e w2 ⟨rfl, hI2, hk2⟩
      have HI2 : Hid (I (j + 1) w2) := hI2
      have HK2 : Hid (WKeep w1 w2) := HWK.out.trans ((WKeep.below hbl).trans hk2)
      clear hI2 hk2 hcall hbl d0 d1 d2 hgr
      go_wp2
      go_roundw
      case rel => exact ⟨j + 1, by omega, by go_num, HI2.out, HK2.out⟩
      case measure => simp [RowKit.intOf]; omega
    · have hjn : j = n := by omega
      go_wp2
      go_end0
      exact ⟨rfl, hjn ▸ HIJ.out⟩
end Go.Proofs.YtilcmkiihefkkabGreatDoor.Mn
end
