import Derived.Test.YtilcmkiihefkkaaAlB
import Derived.Test.YtilcmkiihefkkaaRefI
set_option linter.unusedVariables false
set_option linter.unusedSimpArgs false
namespace Go.Proofs.Ytilcmkiihefkkaa
open Go.RowKit Go.Shelf Go.Lib

/-- links, as they lie in memory -/
def lcells (T : List Lk) : List Value := T.flatMap fun l => [.int .i64 l.a.1, .int .i64 l.a.2, .float .f64 (fq l.q), .int .i64 l.p]

theorem lcells_append (E F : List Lk) : lcells (E ++ F) = lcells E ++ lcells F := by simp [lcells]

theorem lcells_length (E : List Lk) : (lcells E).length = E.length * 4 := by
  induction E with
  | nil => rfl
  | cons x E ih =>
    show (_ :: _ :: _ :: _ :: lcells E).length = _
    simp only [List.length_cons, ih]
    omega

theorem lcells_at (E : List Lk) : ∀ j, j < E.length → (lcells E)[4 * j]? = some (.int .i64 (E.getD j Lk0).a.1) ∧ (lcells E)[4 * j + 1]? = some (.int .i64 (E.getD j Lk0).a.2) ∧ (lcells E)[4 * j + 2]? = some (.float .f64 (fq (E.getD j Lk0).q)) ∧ (lcells E)[4 * j + 3]? = some (.int .i64 (E.getD j Lk0).p) := by
  induction E with
  | nil => intro j h; exact absurd h (by simp)
  | cons x E ih =>
    intro j h
    cases j with
    | zero => exact ⟨rfl, rfl, rfl, rfl⟩
    | succ j =>
      have := ih j (by simpa using h)
      show (Value.int .i64 x.a.1 :: Value.int .i64 x.a.2 :: Value.float .f64 (fq x.q) :: Value.int .i64 x.p :: lcells E)[4 * (j + 1)]? = _ ∧ (Value.int .i64 x.a.1 :: Value.int .i64 x.a.2 :: Value.float .f64 (fq x.q) :: Value.int .i64 x.p :: lcells E)[4 * (j + 1) + 1]? = _ ∧ (Value.int .i64 x.a.1 :: Value.int .i64 x.a.2 :: Value.float .f64 (fq x.q) :: Value.int .i64 x.p :: lcells E)[4 * (j + 1) + 2]? = _ ∧ (Value.int .i64 x.a.1 :: Value.int .i64 x.a.2 :: Value.float .f64 (fq x.q) :: Value.int .i64 x.p :: lcells E)[4 * (j + 1) + 3]? = _
      rw [show 4 * (j + 1) = 4 * j + 1 + 1 + 1 + 1 by omega]
      simpa using this

/-- what a slice of links reads as -/
theorem OwnR.lks {w : World} {base g o cap n : Nat} {T : List Lk} (h : OwnR w base 118 4 (.slice (some ⟨g, o, none⟩) n cap) n (lcells T)) :
    ∀ j, j < T.length → w.cell? ⟨g, o + j * 4, none⟩ = some (.int .i64 (T.getD j Lk0).a.1) ∧ w.cell? ⟨g, o + j * 4 + 1, none⟩ = some (.int .i64 (T.getD j Lk0).a.2) ∧ w.cell? ⟨g, o + j * 4 + 2, none⟩ = some (.float .f64 (fq (T.getD j Lk0).q)) ∧ w.cell? ⟨g, o + j * 4 + 3, none⟩ = some (.int .i64 (T.getD j Lk0).p) := by
  rcases h.2 with ⟨h, _⟩ | ⟨_, _, _, cur, he, h1, h2, h3, h4, h5, h6⟩
  · simp at h
  · simp only [Value.slice.injEq, Option.some.injEq, Addr.mk.injEq, and_true, true_and] at he
    obtain ⟨⟨rfl, rfl⟩, rfl⟩ := he
    intro j hj
    have := lcells_at T j hj
    rw [Nat.mul_comm]
    exact ⟨cell_at h2 (h6 _ _ this.1), cell_at h2 (h6 _ _ this.2.1), cell_at h2 (h6 _ _ this.2.2.1), cell_at h2 (h6 _ _ this.2.2.2)⟩

/-- the link of one more anchor -/
def lkN (k : Int) (T : List Lk) (x : Int × Int) : Lk := ⟨x, (bst k x T T.length).1, (bst k x T T.length).2⟩

theorem lbox_cells (W : World) (a b c d : Value) (t : TypeId) (s : Nat) (hs : s = W.heap.size) : ∀ j u, ([a, b, c, d] : List Value)[j]? = some u → (W.alloc (.cells #[a, b, c, d] t)).cell? ((⟨s, 0, none⟩ : Addr).add j) = some u := by
  intro j u hj
  subst hs
  rw [Addr.add_lit, Nat.zero_add]
  refine cell_at (heap_alloc_new W _) ?_
  simpa using hj

theorem lk_oneCell (a b : Int) (c : Nat) (d : Int) : ∀ u ∈ ([.int .i64 a, .int .i64 b, .float .f64 c, .int .i64 d] : List Value), u.oneCell' = true := by
  intro u hu
  simp at hu
  rcases hu with rfl | rfl | rfl | rfl <;> rfl

/-- what add leaves alone: all that is old, but the table and its row -/
structure TFr (w w' : World) (v : Value) (Tb : Nat) (v' : Value) : Prop where
  os : w'.os = w.os
  tape : w'.tape = w.tape
  output : w'.output = w.output
  size : w.heap.size ≤ w'.heap.size
  other : ∀ j, j < w.heap.size → j ≠ Tb → v.ownBlock ≠ some j → w'.heap[j]? = w.heap[j]?
  new : ∀ g, v'.ownBlock = some g → v.ownBlock = some g ∨ w.heap.size ≤ g

theorem run_store_flt (P : Program) (w : World) (a : Addr) (m : Mode) (k : FloatKind) (b : Nat) : (store a (.float k b) m).run P w = stored P w a (.float k b) m := run_store P w a _ m rfl

attribute [local go_sem] run_store_flt

theorem bst_cap (k : Int) (x : Int × Int) (T : List Lk) (n : Nat) (M : Int) (hk : k ≤ 12) (hM : 48 ≤ M) (hT : ∀ i, i < n → (T.getD i Lk0).q ≤ M) : (bst k x T n).1 ≤ 2 * M := by
  have : ∀ j, j ≤ n → (bst k x T j).1 ≤ 2 * M := by
    intro j
    induction j with
    | zero => intro _; simp [bst]; omega
    | succ j ih =>
      intro hj
      have h1 := ih (by omega)
      have h2 := hT j (by omega)
      have h3 := qtr_le (T.getD j Lk0).a x k
      unfold bst
      split
      · simp only; omega
      · exact h1
  exact this n (Nat.le_refl _)

/-- add at work: the anchor in its box, the best link so far -/
def AdI (w wx : World) (X : Nat) (xr xp q p : Int) : Prop := wx.heap[X]? = some (.cells #[.int .i64 xr, .int .i64 xp] 116 (0, 0)) ∧ wx.heap[X + 1]? = some (.cells #[.int .i64 xr, .int .i64 xp, .float .f64 (fq q), .int .i64 p] 118 (0, 0)) ∧ Below X w wx

theorem AdI.below {w wx wy : World} {X : Nat} {xr xp q p : Int} (h : AdI w wx X xr xp q p) {B : Nat} (hb : Below B wx wy) (hB : X + 1 < B) : AdI w wy X xr xp q p :=
  ⟨(hb.block X (by omega)).trans h.1, (hb.block (X + 1) hB).trans h.2.1, h.2.2.trans (hb.mono (by omega))⟩

theorem AdI.set {w wx : World} {X : Nat} {xr xp q p : Int} (h : AdI w wx X xr xp q p) (q' p' : Int) : AdI w ((wx.setCell ⟨X + 1, 2, none⟩ (.float .f64 (fq q'))).setCell ⟨X + 1, 3, none⟩ (.int .i64 p')) X xr xp q' p' := by
  obtain ⟨h1, h2, h3⟩ := h
  have u := (Upd.of_setCell (i := 2) (.float .f64 (fq q')) h2).setCell (i := 3) (.int .i64 p')
  refine ⟨(u.other X (by omega)).trans h1, u.here, (h3.setCell (p := ⟨X + 1, 2, none⟩) (Nat.le_succ _) _).setCell (p := ⟨X + 1, 3, none⟩) (Nat.le_succ _) _⟩

theorem add_end {w wr w2 : World} {nq Tb base n g' o' cap' X : Nat} {k : Int} {v : Value} {ob : Obj} {T : List Lk} {x : Int × Int} {bq bp : Int} (hltr : Tb < wr.heap.size) (hB2 : w2.heap[Tb]? = some (.cells #[.int .i64 k, v] 113 (0, 0)))
    (hown : OwnR w2 base 118 4 (.slice (some ⟨g', o', none⟩) (n + 1) cap') (n + 1) (lcells T ++ [.int .i64 x.1, .int .i64 x.2, .float .f64 (fq bq), .int .i64 bp])) (hfr : AppFr ((wr.drewN nq).alloc ob) w2 v g')
    (hlk : lkN k T x = ⟨x, bq, bp⟩) (h3 : Below X w wr) (hX : w.heap.size ≤ X) (hv : ∀ g, v.ownBlock = some g → g < X) :
    (w2.setCell ⟨Tb, 1, none⟩ (.slice (some ⟨g', o', none⟩) (n + 1) cap')).heap[Tb]? = some (.cells #[.int .i64 k, .slice (some ⟨g', o', none⟩) (n + 1) cap'] 113 (0, 0)) ∧
      OwnR (w2.setCell ⟨Tb, 1, none⟩ (.slice (some ⟨g', o', none⟩) (n + 1) cap')) base 118 4 (.slice (some ⟨g', o', none⟩) (n + 1) cap') (n + 1) (lcells (T ++ [lkN k T x])) ∧
      TFr w (w2.setCell ⟨Tb, 1, none⟩ (.slice (some ⟨g', o', none⟩) (n + 1) cap')) v Tb (.slice (some ⟨g', o', none⟩) (n + 1) cap') := by
  have hU := Upd.of_setCell (i := 1) (.slice (some ⟨g', o', none⟩) (n + 1) cap') hB2
  have hs := hfr.size
  have hsz : ((wr.drewN nq).alloc ob).heap.size = wr.heap.size + 1 := by simp
  have hsw := h3.size
  refine ⟨hU.here, ?_, ?_⟩
  · rw [lcells_append, hlk]
    exact hown.other (fun g hg _ => hU.other g (fun e => by subst e; exact hown.tag (by decide) hB2 hg))
  · refine ⟨hU.os.trans (hfr.os.trans h3.os), hU.tape.trans (hfr.tape.trans h3.tape), hU.output.trans (hfr.output.trans h3.output), by rw [hU.size]; omega, ?_, ?_⟩
    · intro j hj hjT hjv
      rw [hU.other j hjT, hfr.other j (by omega) hjv]
      exact (Below.heap_alloc (wr.drewN nq) ob j (show j < wr.heap.size by omega)).trans (h3.block j (by omega))
    · intro g hg
      simp only [Value.ownBlock, Option.some.injEq] at hg
      subst hg
      rcases hfr.new with h | h
      · exact Or.inl h
      · right; omega

set_option maxHeartbeats 4000000 in
set_option maxRecDepth 100000 in
theorem add_any (Tb base n : Nat) (k : Int) (T : List Lk) (v : Value) (x : Int × Int) (w : World) (hTl : T.length = n) (hn : n < 1000) (hk1 : 1 ≤ k) (hk2 : k ≤ 12) (hx : okA x)
    (hT : ∀ j, j < n → okA (T.getD j Lk0).a ∧ 0 ≤ (T.getD j Lk0).q ∧ (T.getD j Lk0).q ≤ 100000)
    (hB : w.heap[Tb]? = some (.cells #[.int .i64 k, v] 113 (0, 0))) (hown : OwnR w base 118 4 v n (lcells T)) (hbase : base ≤ w.heap.size) :
    Calls Try.prog 47 #[.pointer (some ⟨Tb, 0, none⟩), .agg #[.int .i64 x.1, .int .i64 x.2]] w fun e w' => e = .returned (.tuple #[]) ∧
      ∃ v', w'.heap[Tb]? = some (.cells #[.int .i64 k, v'] 113 (0, 0)) ∧ OwnR w' base 118 4 v' (n + 1) (lcells (T ++ [lkN k T x])) ∧ TFr w w' v Tb v' := by
  obtain ⟨i0, hi, hz0, hz1, hz2⟩ := info_parts Try.info118
  obtain ⟨ao, c, rfl⟩ := hown.shape
  obtain ⟨xr, xp⟩ := x
  have hltB := lt_of_block hB
  have c0 : w.cell? ⟨Tb, 0, none⟩ = some (.int .i64 k) := cell_at hB rfl
  have c1 : w.cell? ⟨Tb, 1, none⟩ = some (.slice ao n c) := cell_at hB rfl
  have HB : Hid (w.heap[Tb]? = some (.cells #[.int .i64 k, .slice ao n c] 113 (0, 0))) := hB
  have HOWN : Hid (OwnR w base 118 4 (.slice ao n c) n (lcells T)) := hown
  have HTL : Hid (T.length = n) := hTl
  have HT : Hid (∀ j, j < n → okA (T.getD j Lk0).a ∧ 0 ≤ (T.getD j Lk0).q ∧ (T.getD j Lk0).q ≤ 100000) := hT
  have HXO : Hid (okA (xr, xp)) := hx
  have HNE : Hid ((Value.slice ao n c).ownBlock ≠ some Tb) := hown.tag (by decide) hB
  have p50 : (1048576 : Nat) ≤ 2 ^ 50 := by decide
  have e1 : floatOfInt .f64 k = fq (4 * k) := ofInt_fq k (by omega)
  clear hB hown hTl hT hx p50
  go_enter Try.func47, Try.ntmps47
  go_wp2_with fail
  go_region
  go_wp2_with fail
  obtain ⟨X, hX⟩ : ∃ X, X = w.heap.size := ⟨_, rfl⟩
  have HX : Hid (X = w.heap.size) := hX
  have hTbX : Tb < X := by omega
  have HST : Hid (AdI w ((w.alloc (.cells #[.int .i64 xr, .int .i64 xp] 116)).alloc (.cells #[.int .i64 xr, .int .i64 xp, .float .f64 (fq (4 * k)), .int .i64 (-1)] 118)).drew X xr xp (4 * k) (-1)) := by
    refine ⟨?_, ?_, ?_⟩
    · rw [hX]
      exact (Below.heap_alloc (w.alloc (.cells #[.int .i64 xr, .int .i64 xp] 116)) _ _ (by simp)).trans (heap_alloc_new w _)
    · have := heap_alloc_new (w.alloc (.cells #[.int .i64 xr, .int .i64 xp] 116)) (.cells #[.int .i64 xr, .int .i64 xp, .float .f64 (fq (4 * k)), .int .i64 (-1)] 118 (0, 0))
      have e : (w.alloc (.cells #[.int .i64 xr, .int .i64 xp] 116)).heap.size = w.heap.size + 1 := by simp
      rw [e] at this
      rw [hX]
      exact this
    · rw [hX]
      exact (((Below.refl _ w).alloc (Nat.le_refl _) _).alloc (by simp) _).drew
  rw [← hX]
  clear hX
  go_loopw [20] (fun jv wx => ∃ j : Nat, j ≤ n ∧ jv = .int .i64 j ∧ AdI w wx X xr xp (bst k (xr, xp) T j).1 (bst k (xr, xp) T j).2) (fun jv _ => n - (intOf jv).toNat)
  case atStart => exact ⟨0, Nat.zero_le _, rfl, HST.out⟩
  case round =>
    obtain ⟨j, hj, rfl, hI⟩ := hrel
    clear HST
    obtain ⟨h1, h2, h3⟩ := hI
    by_cases hlt : j < n
    · have hltI : (j : Int) < n := by omega
      obtain ⟨ag, aoff, hao, hag⟩ : ∃ ag aoff, ao = some ⟨ag, aoff, none⟩ ∧ ag < X := by
        have hh := HOWN.out
        rcases hh.2 with ⟨_, h⟩ | ⟨g', o', cap', cur, he, h1, h2, _⟩
        · omega
        · simp only [Value.slice.injEq] at he
          exact ⟨g', o', he.1, by rw [HX.out]; exact lt_of_block h2⟩
      subst hao
      obtain ⟨t, ht⟩ : ∃ t, t = T.getD j Lk0 := ⟨_, rfl⟩
      have hcl := HOWN.out.lks j (by rw [HTL.out]; exact hlt)
      have hto := HT.out j hlt
      rw [← ht] at hcl hto
      obtain ⟨⟨tr, tp⟩, tq, tpp⟩ := t
      simp only at hcl hto
      have HTJ : Hid (T.getD j Lk0 = ⟨(tr, tp), tq, tpp⟩) := ht.symm
      obtain ⟨d1, d2, d3, d4⟩ := hcl
      rw [← h3.cell hag] at d1 d2 d3 d4
      obtain ⟨hto1, hto2, hto3⟩ := hto
      have b0 : wr.cell? ⟨Tb, 0, none⟩ = some (.int .i64 k) := by rw [h3.cell hTbX]; exact c0
      obtain ⟨bq, hbq⟩ : ∃ q, q = (bst k (xr, xp) T j).1 := ⟨_, rfl⟩
      obtain ⟨bp, hbp⟩ : ∃ q, q = (bst k (xr, xp) T j).2 := ⟨_, rfl⟩
      rw [← hbq, ← hbp] at h2
      have HBQ : Hid (bq = (bst k (xr, xp) T j).1) := hbq
      have HBP : Hid (bp = (bst k (xr, xp) T j).2) := hbp
      have hXlt : X + 1 < wr.heap.size := lt_of_block h2
      have x0 : wr.cell? ⟨X, 0, none⟩ = some (.int .i64 xr) := cell_at h1 rfl
      have x1 : wr.cell? ⟨X, 1, none⟩ = some (.int .i64 xp) := cell_at h1 rfl
      have HI : Hid (AdI w wr X xr xp bq bp) := ⟨h1, h2, h3⟩
      clear ht hbq hbp h1 h2 h3
      have x0a : ∀ o, (wr.alloc o).cell? ⟨X, 0, none⟩ = some (.int .i64 xr) := fun o => (World.cell?_of_block (Below.heap_alloc _ _ X (by omega))).trans x0
      have x1a : ∀ o, (wr.alloc o).cell? ⟨X, 1, none⟩ = some (.int .i64 xp) := fun o => (World.cell?_of_block (Below.heap_alloc _ _ X (by omega))).trans x1
      obtain ⟨LO, hLO⟩ : ∃ o : Obj, o = .cells #[.int .i64 tr, .int .i64 tp, .float .f64 (fq tq), .int .i64 tpp] 118 := ⟨_, rfl⟩
      have hbA : Below wr.heap.size wr (wr.alloc LO) := (Below.refl _ _).alloc (Nat.le_refl _) _
      have hLn : (wr.alloc LO).heap[wr.heap.size]? = some LO := heap_alloc_new wr _
      have hLs : (wr.alloc LO).heap.size = wr.heap.size + 1 := by simp
      have HW4 : Hid (∀ w4, Below (wr.alloc LO).heap.size (wr.alloc LO) w4 → AdI w w4 X xr xp bq bp ∧ w4.heap[wr.heap.size]? = some LO ∧ w4.cell? ⟨Tb, 0, none⟩ = some (.int .i64 k) ∧ wr.heap.size < w4.heap.size) := fun w4 h4 => by
        have hb : Below wr.heap.size wr w4 := hbA.trans (h4.mono (by omega))
        refine ⟨HI.out.below hb hXlt, (h4.block _ (by omega)).trans hLn, ?_, ?_⟩
        · rw [hb.cell (show Tb < _ by omega)]; exact b0
        · have := h4.size
          omega
      rw [hLO] at HW4
      clear hbA hLn hLs hLO LO
      by_cases hf : fol (tr, tp) (xr, xp)
      · have hfB : folB (tr, tp) (xr, xp) = true := (folB_iff _ _).2 hf
        have cM := fun W => mayFollow_any (xr, xp) (tr, tp) W
        rw [hfB] at cM
        clear hfB
        go_wp2_with fail
        refine (cM _).mono ?_
        rintro e w4 ⟨rfl, hb4⟩
        obtain ⟨hA4, hL4, hT4, hs4⟩ := HW4.out w4 hb4
        clear HW4 hb4 x0a x1a cM
        obtain ⟨hf1, hf2⟩ := hf
        simp only at hf1 hf2
        have xo := HXO.out
        obtain ⟨xo1, xo2, xo3, xo4⟩ := xo
        obtain ⟨to1, to2, to3, to4⟩ := hto1
        simp only at xo1 xo2 xo3 xo4 to1 to2 to3 to4
        obtain ⟨Q, hQ⟩ : ∃ Q, Q = qtr (tr, tp) (xr, xp) k := ⟨_, rfl⟩
        have hQ1 : Q ≤ 48 := by rw [hQ]; exact Int.le_trans (qtr_le _ _ _) (by omega)
        have hQ2 : -20000 ≤ Q := by rw [hQ]; exact qtr_ge _ _ _ ⟨to1, to2, to3, to4⟩ HXO.out ⟨hf1, hf2⟩ hk1
        have cG : ∀ W, Calls Try.prog 71 #[.int .i64 (xp - tp), .int .i64 (xr - tr), .int .i64 k] W fun e w' => e = .returned (.float .f64 (fq Q)) ∧ w' = W := fun W => by
          rw [hQ]; exact gain_any (xp - tp) (xr - tr) k W (by omega) (by omega) (by omega) (by omega) hk1 hk2
        have HQ : Hid (Q = qtr (tr, tp) (xr, xp) k) := hQ
        have hbq0 : 4 * k ≤ bq := by rw [HBQ.out]; exact bst_ge _ _ _ _
        have hbq1 : bq ≤ 200000 := by
          rw [HBQ.out]
          exact bst_cap k (xr, xp) T j 100000 (by omega) (by omega) (fun i hi => (HT.out i (by omega)).2.2)
        have p53 : (1048576 : Nat) ≤ 2 ^ 53 := by decide
        have qa : ∀ W t, (binOp .add t (.float .f64 (fq tq)) (.float .f64 (fq Q))).run Try.prog W = .ok (.float .f64 (fq (tq + Q))) W := fun W t => run_float_arith W .add t .f64 _ _ _ (add_fq _ _ (by omega) (by omega) (by omega))
        have ho : FloatKind.f64.format.order (fq (tq + Q)) (fq bq) = some (compare (tq + Q) bq) := order_fq _ _ (by omega) (by omega)
        have l0 := cell_at hL4 (i := 0) rfl
        have l1 := cell_at hL4 (i := 1) rfl
        have l2 := cell_at hL4 (i := 2) rfl
        have l3 := cell_at hL4 (i := 3) rfl
        have y0 := cell_at hA4.1 (i := 0) rfl
        have y1 := cell_at hA4.1 (i := 1) rfl
        have z2 := cell_at hA4.2.1 (i := 2) rfl
        have z3 := cell_at hA4.2.1 (i := 3) rfl
        have zf2 : w4.frozen? ⟨X + 1, 2, none⟩ = false := frozen_of_row _ _ _ _ _ hA4.2.1
        have zf3 : w4.frozen? ⟨X + 1, 3, none⟩ = false := frozen_of_row _ _ _ _ _ hA4.2.1
        have HA4 : Hid (AdI w w4 X xr xp bq bp) := hA4
        have HFO : Hid (fol (tr, tp) (xr, xp)) := ⟨hf1, hf2⟩
        have s1 : IntKind.i64.wrap (xp - tp) = xp - tp := by rw [IntKind.wrap_i64]; omega
        have s2 : IntKind.i64.wrap (xr - tr) = xr - tr := by rw [IntKind.wrap_i64]; omega
        clear hQ p53 hL4 hA4 HI HT x0 x1 b0 d1 d2 d3 d4
        rcases Int.lt_trichotomy (tq + Q) bq with hc | hc | hc
        · rw [show compare (tq + Q) bq = .lt by simp [compare, compareOfLessAndEq, hc]] at ho
          go_wp2_with fail
          go_quiet ((go_at_call 71; refine Calls.quiet_of_same (cG _)))
          go_wp2_with fail
          go_roundw
          case rel =>
            have e : bst k (xr, xp) T (j + 1) = bst k (xr, xp) T j := by
              rw [bst, if_neg]
              rw [HTJ.out, ← HBQ.out]
              simp only
              rw [← HQ.out]
              exact fun h => by have := h.2; omega
            refine ⟨j + 1, by omega, by go_num, ?_⟩
            rw [e, ← HBQ.out, ← HBP.out]
            exact ⟨HA4.out.1, HA4.out.2.1, belDrewN HA4.out.2.2 _⟩
          case measure => simp [intOf]; omega
        · rw [show compare (tq + Q) bq = .eq by rw [hc]; simp [compare, compareOfLessAndEq]] at ho
          subst hc
          go_wp2_with fail
          go_quiet ((go_at_call 71; refine Calls.quiet_of_same (cG _)))
          go_wp2_with fail
          go_roundw
          case rel =>
            have e : bst k (xr, xp) T (j + 1) = bst k (xr, xp) T j := by
              rw [bst, if_neg]
              rw [HTJ.out, ← HBQ.out]
              simp only
              rw [← HQ.out]
              exact fun h => by have := h.2; omega
            refine ⟨j + 1, by omega, by go_num, ?_⟩
            rw [e, ← HBQ.out, ← HBP.out]
            exact ⟨HA4.out.1, HA4.out.2.1, belDrewN HA4.out.2.2 _⟩
          case measure => simp [intOf]; omega
        · rw [show compare (tq + Q) bq = .gt by
            have g1 : ¬ (tq + Q < bq) := by omega
            have g2 : ¬ (tq + Q = bq) := by omega
            simp [compare, compareOfLessAndEq, g1, g2]] at ho
          go_wp2_with fail
          go_quiet ((go_at_call 71; refine Calls.quiet_of_same (cG _)))
          go_wp2_with fail
          go_roundw
          case rel =>
            have e : bst k (xr, xp) T (j + 1) = (tq + Q, (j : Int)) := by
              rw [bst, if_pos]
              · rw [HTJ.out]
                simp only
                rw [← HQ.out]
              · rw [HTJ.out, ← HBQ.out]
                simp only
                rw [← HQ.out]
                exact ⟨HFO.out, hc⟩
            refine ⟨j + 1, by omega, by go_num, ?_⟩
            rw [e]
            have h5 : AdI w (w4.drewN nq) X xr xp bq bp := ⟨HA4.out.1, HA4.out.2.1, belDrewN HA4.out.2.2 _⟩
            exact h5.set _ _
          case measure => simp [intOf]; omega
      · have hfB : folB (tr, tp) (xr, xp) = false := by
          rw [← Bool.not_eq_true, folB_iff]; exact hf
        have cM := fun W => mayFollow_any (xr, xp) (tr, tp) W
        rw [hfB] at cM
        have HFO : Hid (¬ fol (tr, tp) (xr, xp)) := hf
        clear hfB hf
        go_wp2_with fail
        refine (cM _).mono ?_
        rintro e w4 ⟨rfl, hb4⟩
        obtain ⟨hA4, hL4, hT4, hs4⟩ := HW4.out w4 hb4
        have HA4 : Hid (AdI w w4 X xr xp bq bp) := hA4
        clear HW4 hb4 x0a x1a cM hA4 hL4
        go_wp2_with fail
        go_roundw
        case rel =>
          have e : bst k (xr, xp) T (j + 1) = bst k (xr, xp) T j := by
            rw [bst, if_neg]
            rw [HTJ.out]
            exact fun h => HFO.out h.1
          refine ⟨j + 1, by omega, by go_num, ?_⟩
          rw [e, ← HBQ.out, ← HBP.out]
          exact HA4.out
        case measure => simp [intOf]; omega
    · have hje : j = n := by omega
      subst hje
      obtain ⟨bq, hbq⟩ : ∃ q, q = (bst k (xr, xp) T j).1 := ⟨_, rfl⟩
      obtain ⟨bp, hbp⟩ : ∃ q, q = (bst k (xr, xp) T j).2 := ⟨_, rfl⟩
      rw [← hbq, ← hbp] at h2
      have HLK : Hid (lkN k T (xr, xp) = ⟨(xr, xp), bq, bp⟩) := by
        show _ = _
        unfold lkN
        rw [HTL.out, hbq, hbp]
      have hXlt : X + 1 < wr.heap.size := lt_of_block h2
      have hownr : OwnR wr base 118 4 (.slice ao j c) j (lcells T) := HOWN.out.other (fun g _ hlt => h3.block g (by rw [HX.out]; exact hlt))
      have hBr : wr.heap[Tb]? = some (.cells #[.int .i64 k, .slice ao j c] 113 (0, 0)) := (h3.block Tb hTbX).trans HB.out
      have HBR : Hid (wr.heap[Tb]? = some (.cells #[.int .i64 k, .slice ao j c] 113 (0, 0))) := hBr
      have t1 : wr.cell? ⟨Tb, 1, none⟩ = some (.slice ao j c) := cell_at hBr rfl
      have ft1 : wr.frozen? ⟨Tb, 1, none⟩ = false := frozen_of_row _ _ _ _ _ hBr
      have z0 := cell_at h2 (i := 0) rfl
      have z1 := cell_at h2 (i := 1) rfl
      have z2 := cell_at h2 (i := 2) rfl
      have z3 := cell_at h2 (i := 3) rfl
      have H3 : Hid (Below X w wr) := h3
      have hltr : Tb < wr.heap.size := by omega
      have hbr : base ≤ wr.heap.size := by have := h3.size; omega
      clear hbq hbp h1 h2 h3 hBr
      go_wp2_with fail
      go_region_law (refine step_own rfl (.tmp 63) (.tmp 65) 111 rfl 118 i0 _ 4 32 Try.underlying111 hi hz0 hz1 hz2 rfl (by decide) base (.slice ao j c) j (lcells T) (by simp [Act.eval]) (by exact hownr.other (fun g _ hlt => Below.heap_alloc (wr.drewN _) _ _ hlt)) ⟨wr.heap.size, 0, none⟩ 1 [.int .i64 xr, .int .i64 xp, .float .f64 (fq bq), .int .i64 bp] (by simp [Act.eval]) rfl (by exact lbox_cells (wr.drewN _) _ _ _ _ _ _ rfl) (lk_oneCell _ _ _ _) (by unfold maxLen; omega) (by omega) (by simp; omega) ?_; intro g' o' cap' w2 hown' hfr; have hB2 : w2.heap[Tb]? = some (.cells #[.int .i64 k, .slice ao j c] 113 (0, 0)) := (hfr.other Tb (by simp; omega) HNE.out).trans ((Below.heap_alloc (wr.drewN _) _ _ hltr).trans HBR.out); have HB2 : Hid _ := hB2; have q4 := cell_at hB2 (i := 1) rfl; have qf : w2.frozen? ⟨Tb, 1, none⟩ = false := frozen_of_row w2 _ _ _ _ hB2; clear hB2)
      all_goals go_end0
      all_goals exact ⟨rfl, _, add_end hltr HB2.out hown' hfr HLK.out H3.out (Nat.le_of_eq HX.out.symm) (fun g hg => by rw [HX.out]; exact (HOWN.out.lt hg).2)⟩
end Go.Proofs.Ytilcmkiihefkkaa
