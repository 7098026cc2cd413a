import Derived.Test.YtilcmkiihefkkabGreatDoorJk14
import Derived.Test.YtilcmkiihefkkabGreatDoorJk19
import Derived.Test.YtilcmkiihefkkabGreatDoorJk22
import Derived.Test.YtilcmkiihefkkabGreatDoorJk23
section
set_option linter.unusedVariables false
set_option linter.unusedSimpArgs false
set_option maxRecDepth 100000
namespace Go.Proofs.YtilcmkiihefkkabGreatDoor.Mn
open Go.RowKit Go.Maps
theorem getD_get {α : Type} (L : List α) (i : Nat) (d : α) (h : i < L.length) : L.getD i d = L[i] := by simp [List.getD_eq_getElem?_getD, List.getElem?_eq_getElem h]
theorem good_getD0 {s : ByteArray} (h : good s) : ∀ i, i < s.data.toList.length → 0 ≤ numb (s.data.toList.getD i 0) := by
  intro i hi
  have hi' : i < s.size := by simpa using hi
  have := h i hi'
  rw [getD_get _ _ _ hi]
  exact this
theorem wds_pk (k W : Nat) (hk1 : 1 ≤ k) (hk2 : k ≤ 12) (s : ByteArray) (hg : good s) : wds k W s = (pkRun k W (nums s.data.toList) (s.size + 1 - k)).M := by
  have := wordsW k W hk1 hk2 s.data.toList (good_getD0 hg)
  have e : s.data.toList.length = s.size := by simp
  rw [e] at this
  exact this
theorem wds_mem {k W : Nat} (hk1 : 1 ≤ k) (hk2 : k ≤ 12) (hW : 1 ≤ W) {s : ByteArray} (hg : good s) {x : W3} (hx : x ∈ wds k W s) : ∃ p : Nat, candW (nums s.data.toList) k p = some x := by
  rw [wds_pk k W hk1 hk2 s hg] at hx
  obtain ⟨e, _, _, i, _, _, hi, _⟩ := (pkI (nums s.data.toList) k W hW _).mem x hx
  exact ⟨i, hi⟩
theorem hashN_lt (k c : Nat) (h2 : k ≤ 12) : hashN k c < 16777216 := by
  have hp : 0 < (4 : Nat) ^ k := Nat.pow_pos (by omega)
  have h4 : (4 : Nat) ^ k = 2 ^ (2 * k) := by rw [Nat.pow_mul]
  have h24 : (2 : Nat) ^ (2 * k) ≤ 2 ^ 24 := Nat.pow_le_pow_right (by omega) (by omega)
  have h1 : c * 2654435761 % 4 ^ k < 2 ^ 24 := by
    have := Nat.mod_lt (c * 2654435761) hp
    omega
  unfold hashN
  exact Nat.xor_lt_two_pow h1 (Nat.lt_of_le_of_lt (Nat.div_le_self _ _) h1)
theorem wds_ok {k W : Nat} (hk1 : 1 ≤ k) (hk2 : k ≤ 12) (hW : 1 ≤ W) {s : ByteArray} (hg : good s) {x : W3} (hx : x ∈ wds k W s) : 0 ≤ x.h ∧ x.h < 16777216 ∧ 0 ≤ x.p ∧ x.p + k ≤ s.size := by
  obtain ⟨p, hp⟩ := wds_mem hk1 hk2 hW hg hx
  obtain ⟨e, c⟩ := candW_cases hp
  have hl := (isW_seg (candW_isW hp)).1
  have e2 : (nums s.data.toList).length = s.size := by simp [nums]
  rw [e2] at hl
  rcases c with ⟨_, h⟩ | ⟨_, h⟩
  · have := hashN_lt k (codeL (seg (nums s.data.toList) p k)) hk2
    omega
  · have := hashN_lt k (codeL (rcL (seg (nums s.data.toList) p k))) hk2
    omega
theorem okI_of {h : Int} (h0 : 0 ≤ h) (h1 : h < 16777216) : okI h := by
  unfold okI; exact WalkArith.wf_i64 (by omega)
theorem inc_length : ∀ (L : List W3) (lo n : Int), L.Pairwise (fun x y => x.p < y.p) → (∀ x ∈ L, lo ≤ x.p ∧ x.p < n) → lo ≤ n → (L.length : Int) ≤ n - lo
  | [], lo, n, _, _, h => by simp; omega
  | x :: t, lo, n, hp, hm, h => by
    have hx := hm x (List.mem_cons_self)
    have := inc_length t (x.p + 1) n (List.Pairwise.of_cons hp) (fun y hy => ⟨by have := List.rel_of_pairwise_cons hp hy; omega, (hm y (List.mem_cons_of_mem _ hy)).2⟩) (by omega)
    simp only [List.length_cons]
    omega
theorem wds_len {k W : Nat} (hk1 : 1 ≤ k) (hk2 : k ≤ 12) (hW : 1 ≤ W) {s : ByteArray} (hg : good s) : (wds k W s).length ≤ s.size := by
  have hinc : (wds k W s).Pairwise (fun x y => x.p < y.p) := by
    rw [wds_pk k W hk1 hk2 s hg]; exact (pkI (nums s.data.toList) k W hW _).inc
  have := inc_length (wds k W s) 0 s.size hinc (fun x hx => by have := wds_ok hk1 hk2 hW hg hx; omega) (by omega)
  omega
/-- all words of one reference are entered -/
def entL (i : Nat) (T : Int → List W3) (L : List W3) : Int → List W3 := L.foldl (entW i) T
def S0 : S2 := ⟨⟨#[]⟩, ⟨#[]⟩⟩
/-- where words stand, behind so many references -/
def tabN (k W : Nat) (R : List S2) : Nat → Int → List W3
  | 0 => fun _ => []
  | j + 1 => entL j (tabN k W R j) (wds k W (R.getD j S0).b)
/-- so many bases have the first references -/
def sumN (R : List S2) : Nat → Nat
  | 0 => 0
  | j + 1 => sumN R j + (R.getD j S0).b.size
theorem entL_take (i : Nat) (T : Int → List W3) (L : List W3) (j : Nat) (h : j < L.length) : entL i T (L.take (j + 1)) = entW i (entL i T (L.take j)) L[j] := by
  unfold entL
  rw [List.take_add_one, List.getElem?_eq_getElem h, List.foldl_append]
  rfl
theorem entW_len (i : Nat) (T : Int → List W3) (x : W3) (n : Nat) (h : ∀ a, (T a).length ≤ n) : ∀ a, (entW i T x a).length ≤ n + 1 := by
  intro a
  unfold entW updF
  split
  · have := h x.h; simp; omega
  · have := h a; omega
theorem entL_len (i : Nat) : ∀ (L : List W3) (T : Int → List W3) (n : Nat), (∀ a, (T a).length ≤ n) → ∀ a, (entL i T L a).length ≤ n + L.length
  | [], T, n, h, a => h a
  | x :: t, T, n, h, a => by
    have := entL_len i t (entW i T x) (n + 1) (entW_len i T x n h) a
    simp only [List.length_cons]
    show (entL i (entW i T x) t a).length ≤ _
    omega
theorem tabN_len {k W : Nat} (hk1 : 1 ≤ k) (hk2 : k ≤ 12) (hW : 1 ≤ W) (R : List S2) (hR : ∀ x ∈ R, good x.b) : ∀ j, j ≤ R.length → ∀ a, (tabN k W R j a).length ≤ sumN R j
  | 0, _, a => by simp [tabN, sumN]
  | j + 1, h, a => by
    have h1 := tabN_len hk1 hk2 hW R hR j (by omega)
    have h2 := entL_len j (wds k W (R.getD j S0).b) (tabN k W R j) _ h1 a
    have hm : R.getD j S0 ∈ R := by rw [getD_get _ _ _ (by omega)]; exact List.getElem_mem _
    have h3 := wds_len hk1 hk2 hW (hR _ hm) (W := W) (k := k)
    show (entL j (tabN k W R j) (wds k W (R.getD j S0).b) a).length ≤ sumN R j + (R.getD j S0).b.size
    omega
theorem sumN_mono (R : List S2) : ∀ j m, j ≤ m → sumN R j ≤ sumN R m := by
  intro j m h
  induction m with
  | zero => have : j = 0 := by omega
            subst this; exact Nat.le_refl _
  | succ m ih =>
    rcases Nat.lt_or_ge j (m + 1) with h' | h'
    · have := ih (by omega); show _ ≤ sumN R m + _; omega
    · have : j = m + 1 := by omega
      subst this; exact Nat.le_refl _
end Go.Proofs.YtilcmkiihefkkabGreatDoor.Mn
end
section
set_option linter.unusedVariables false
set_option linter.unusedSimpArgs false
set_option maxRecDepth 100000
namespace Go.Proofs.YtilcmkiihefkkabGreatDoor.Mn
open Go.RowKit Go.Maps
def geO : Option Ordering → Bool
  | some .gt => true
  | some .eq => true
  | _ => false
def leO : Option Ordering → Bool
  | some .lt => true
  | some .eq => true
  | _ => false
def fge (x y : Nat) : Bool := geO (FloatKind.f64.format.order x y)
def fle (x y : Nat) : Bool := leO (FloatKind.f64.format.order x y)
/-- may options be? -/
def optB (k W : Int) (sc : Nat) : Bool := decide (1 ≤ k) && decide (k ≤ 12) && decide (1 ≤ W) && decide (W ≤ 20) && fge sc 0 && fle sc 4652007308841189376
set_option maxHeartbeats 1000000 in
theorem optsMay_any (k W : Int) (sc : Nat) (w : World) :
    Calls Tryz.prog 15 #[.agg #[.int .i64 k, .int .i64 W, .float .f64 sc]] w fun e w' => e = .returned (.bool (optB k W sc)) ∧ Below w.heap.size w w' := by
  have hbl : Below w.heap.size w (w.alloc (Obj.cells #[Value.int IntKind.i64 k, Value.int IntKind.i64 W, Value.float .f64 sc] 24)) := (Below.refl _ _).alloc (Nat.le_refl _) _
  obtain ⟨o1, h1⟩ : ∃ o, FloatKind.f64.format.order sc 0 = o := ⟨_, rfl⟩
  obtain ⟨o2, h2⟩ : ∃ o, FloatKind.f64.format.order sc 4652007308841189376 = o := ⟨_, rfl⟩
  have e : optB k W sc = (decide (1 ≤ k) && decide (k ≤ 12) && decide (1 ≤ W) && decide (W ≤ 20) && geO o1 && leO o2) := by
    unfold optB fge fle; rw [h1, h2]
  have HE : Hid (optB k W sc = _) := e
  clear e
  by_cases a1 : 1 ≤ k
  · by_cases a2 : k ≤ 12
    · by_cases a3 : 1 ≤ W
      · by_cases a4 : W ≤ 20
        · rcases o1 with _ | (_ | _ | _) <;> rcases o2 with _ | (_ | _ | _) <;>
          · go_enter Tryz.func15, Tryz.ntmps15
            go_wp2
            go_ret
            exact ⟨by rw [HE.out]; simp [a1, a2, a3, a4, geO, leO], hbl⟩
        · have HZ : Hid (optB k W sc = false) := by show _ = _; rw [HE.out]; simp [a4]
          clear HE h1 h2
          go_enter Tryz.func15, Tryz.ntmps15
          go_wp2
          go_ret
          exact ⟨by rw [HZ.out]; rfl, hbl⟩
      · have HZ : Hid (optB k W sc = false) := by show _ = _; rw [HE.out]; simp [a3]
        clear HE h1 h2
        go_enter Tryz.func15, Tryz.ntmps15
        go_wp2
        go_ret
        exact ⟨by rw [HZ.out]; rfl, hbl⟩
    · have HZ : Hid (optB k W sc = false) := by show _ = _; rw [HE.out]; simp [a2]
      clear HE h1 h2
      go_enter Tryz.func15, Tryz.ntmps15
      go_wp2
      go_ret
      exact ⟨by rw [HZ.out]; rfl, hbl⟩
  · have HZ : Hid (optB k W sc = false) := by show _ = _; rw [HE.out]; simp [a1]
    clear HE h1 h2
    go_enter Tryz.func15, Tryz.ntmps15
    go_wp2
    go_ret
    exact ⟨by rw [HZ.out]; rfl, hbl⟩
theorem sumN_le (R : List S2) (M : Nat) (h : ∀ x ∈ R, x.b.size ≤ M) : ∀ j, j ≤ R.length → sumN R j ≤ j * M
  | 0, _ => by simp [sumN]
  | j + 1, hj => by
    have h1 := sumN_le R M h j (by omega)
    have h2 : (R.getD j S0).b.size ≤ M := by rw [getD_get _ _ _ (by omega)]; exact h _ (List.getElem_mem _)
    show sumN R j + _ ≤ _
    rw [Nat.add_mul]; omega
/-- what is wrong with references -/
def refsE (R : List S2) : Int := if 4000 < sumN R R.length then 1 else if R.length = 0 then 7 else 0
set_option maxHeartbeats 1000000 in
theorem refsErr_any (R : List S2) (base : Nat) (rv : Value) (w : World) (hR : R.length < 100000) (hsz : ∀ x ∈ R, x.b.size ≤ 1000000000) (hown : OwnR w base 62 2 rv R.length (qcells R)) :
    Calls Tryz.prog 17 #[rv] w fun e w' => e = .returned (.int .i64 (refsE R)) ∧ Below w.heap.size w w' := by
  obtain ⟨n, hn⟩ : ∃ n, n = R.length := ⟨_, rfl⟩
  have HN : Hid (n = R.length) := hn
  have HR : Hid (refsE R = if 4000 < sumN R n then 1 else if n = 0 then 7 else 0) := by show _ = _; rw [hn]; rfl
  have HSZ : Hid (∀ x ∈ R, x.b.size ≤ 1000000000) := hsz
  have HO : Hid (OwnR w base 62 2 rv n (qcells R)) := by rw [hn]; exact hown
  rw [← hn] at hR hown
  obtain ⟨ao, cp, hv, hs⟩ : ∃ ao cp, rv = .slice ao n cp ∧ (n ≠ 0 → ∃ g o, ao = some ⟨g, o, none⟩ ∧ g < w.heap.size) := by
    rcases hown.2 with ⟨h, h0⟩ | ⟨g, o, cap, cur, h, _, hg, _⟩
    · exact ⟨none, 0, by rw [h, h0], fun h' => absurd h0 h'⟩
    · exact ⟨_, _, h, fun _ => ⟨g, o, rfl, lt_of_block hg⟩⟩
  subst hv
  clear hn hsz hown
  go_enter Tryz.func17, Tryz.ntmps17
  go_wp2
  go_loopw [3, 8] (fun b i wr => ∃ j : Nat, j ≤ n ∧ i = .int .i64 j ∧ b = .int .i64 (sumN R j) ∧ Below w.heap.size w wr) (fun _ i _ => n - (RowKit.intOf i).toNat)
  case atStart => exact ⟨0, Nat.zero_le _, rfl, rfl, Below.refl _ _⟩
  case round =>
    obtain ⟨j, hj, rfl, rfl, hbl⟩ := hrel
    have HB : Hid (Below w.heap.size w wr) := hbl
    clear hbl
    by_cases hlt : j < n
    · obtain ⟨g, o, rfl, hgl⟩ := hs (by omega)
      have hjR : j < R.length := by have := HN.out; omega
      have hc := (HO.out.other (w' := wr) (fun g' _ hlt' => HB.out.block g' hlt')).seqs j hjR
      obtain ⟨x, hx⟩ : ∃ x, x = R[j] := ⟨_, rfl⟩
      rw [← hx] at hc
      obtain ⟨d0, d1⟩ := hc
      have hxs : x.b.size ≤ 1000000000 := HSZ.out x (by rw [hx]; exact List.getElem_mem _)
      have HX : Hid (sumN R (j + 1) = sumN R j + x.b.size) := by show sumN R j + (R.getD j S0).b.size = _; rw [getD_get _ _ _ hjR, hx]
      have hsum : sumN R j ≤ 100000000000000 := Nat.le_trans (sumN_le R 1000000000 HSZ.out j (by omega)) (by omega)
      clear hx
      go_wp2
      go_roundw
      case rel =>
        refine ⟨j + 1, by omega, by go_num, ?_, HB.out.alloc HB.out.size _⟩
        have := HX.out
        go_num
      case measure => simp [RowKit.intOf]; omega
    · have hjn : j = n := by omega
      subst hjn
      by_cases h4 : 4000 < sumN R j
      · have HZ : Hid (refsE R = 1) := by show _ = _; rw [HR.out, if_pos h4]
        have h4i : (4000 : Int) < sumN R j := by omega
        go_wp2
        go_ret
        exact ⟨by rw [HZ.out]; rfl, HB.out⟩
      · have h4i : ¬ (4000 : Int) < sumN R j := by omega
        by_cases h0 : j = 0
        · have HZ : Hid (refsE R = 7) := by show _ = _; rw [HR.out, if_neg h4, if_pos h0]
          subst h0
          go_wp2
          go_ret
          exact ⟨by rw [HZ.out]; rfl, HB.out⟩
        · have HZ : Hid (refsE R = 0) := by show _ = _; rw [HR.out, if_neg h4, if_neg h0]
          have h0i : ¬ (j : Int) = 0 := by omega
          go_wp2
          go_ret
          exact ⟨by rw [HZ.out]; rfl, HB.out⟩
end Go.Proofs.YtilcmkiihefkkabGreatDoor.Mn
end
section
set_option linter.unusedVariables false
set_option linter.unusedSimpArgs false
set_option maxRecDepth 100000
namespace Go.Proofs.YtilcmkiihefkkabGreatDoor.Mn
open Go.RowKit Go.Maps
theorem enterEword (args : Array Value) (w : World) : (callFunc 34 args).run Tryz.prog w = .ok (.enter 34 args) w := enter_of Tryz.func34 (by kernel_rfl) rfl args w
/-- an index under way -/
structure NwI (w : World) (X Hb Eb : Nat) (ix : Array Value) (j : Nat) (T : Int → List W3) (N : Nat) (wr : World) : Prop where
  ix : wr.heap[X]? = some (.cells ix 59 (0, 0))
  en : wr.heap[Eb]? = some (.cells #[.int .i64 j, .map (some Hb)] 86 (0, 0))
  ht : ∃ V, HtP wr w.heap.size Hb N V T
  bl : Below w.heap.size w wr
  lo : w.heap.size ≤ Hb
theorem NwI.kept {w wr w' : World} {X Hb Eb : Nat} {ix : Array Value} {j : Nat} {T : Int → List W3} {N : Nat} (h : NwI w X Hb Eb ix j T N wr) (hb : Below wr.heap.size wr w') : NwI w X Hb Eb ix j T N w' := by
  obtain ⟨V, hV⟩ := h.ht
  exact ⟨(hb.block _ (lt_of_block h.ix)).trans h.ix, (hb.block _ (lt_of_block h.en)).trans h.en, ⟨V, hV.kept (fun g hg => hb.block g hg)⟩, h.bl.trans (hb.mono h.bl.size), h.lo⟩
theorem map_ne {w : World} {base Hb n : Nat} {V : Int → Value} {T : Int → List W3} (h : HtP w base Hb n V T) {g : Nat} {cs : Array Value} {t : TypeId} (hg : w.heap[g]? = some (.cells cs t (0, 0))) : g ≠ Hb := by
  obtain ⟨D, ⟨es, clock, hb, _⟩, _⟩ := h.map
  intro e
  rw [e, hb] at hg
  cases hg
theorem NwI.step {w : World} {X Hb Eb : Nat} {ix : Array Value} {j : Nat} {T : Int → List W3} {N : Nat} {wr : World} (h : NwI w X Hb Eb ix j T N wr) (x : W3) (hx : okI x.h) (hN : N < 100000) (hT : (T x.h).length < 100000) :
    Calls Tryz.prog 34 #[.pointer (some ⟨Eb, 0, none⟩), .agg #[.int .i64 x.h, .int .i64 x.p, .bool x.b]] wr fun e w' => e = .returned (.tuple #[]) ∧ NwI w X Hb Eb ix j (entW j T x) (N + 1) w' ∧ WKeep wr w' := by
  obtain ⟨V, hV⟩ := h.ht
  refine (eword_any j x hx Eb Hb w.heap.size N V T wr hN hT h.bl.size h.en hV).mono ?_
  rintro e w' ⟨rfl, hV', hs, hk, ho, ht, hu⟩
  have tagk : ∀ g cs t, wr.heap[g]? = some (Obj.cells cs t (0, 0)) → t ≠ 78 → w'.heap[g]? = wr.heap[g]? := fun g cs t hg hne => hk g (lt_of_block hg) (map_ne hV hg) ((hV.own x.h hx).tag hne hg)
  refine ⟨rfl, ⟨(tagk _ _ _ h.ix (by decide)).trans h.ix, (tagk _ _ _ h.en (by decide)).trans h.en, hV', ?_, h.lo⟩, fun g cs hg => tagk g cs _ hg (by decide)⟩
  refine ⟨ho.trans h.bl.os, ht.trans h.bl.tape, hu.trans h.bl.output, Nat.le_trans h.bl.size hs, fun g hg => ?_⟩
  rw [hk g (Nat.lt_of_lt_of_le hg h.bl.size) (by have := h.lo; omega) (fun e => by have := ((hV.own x.h hx).lt e).1; omega)]
  exact h.bl.block g hg
set_option maxHeartbeats 4000000 in
theorem newIndex_any (R : List S2) (base : Nat) (rv : Value) (k W sc : Nat) (w : World) (hk1 : 1 ≤ k) (hk2 : k ≤ 12) (hW : 1 ≤ W) (hW2 : W ≤ 20) (hR : R.length < 100000) (hg : ∀ x ∈ R, good x.b) (hsum : sumN R R.length ≤ 4000) (hown : OwnR w base 62 2 rv R.length (qcells R)) :
    Calls Tryz.prog 18 #[rv, .agg #[.int .i64 k, .int .i64 W, .float .f64 sc]] w fun e w' => ∃ X Hb V, e = .returned (.pointer (some ⟨X, 0, none⟩)) ∧
      w'.heap[X]? = some (.cells (ixC k W sc rv (.map (some Hb))) 59 (0, 0)) ∧ HtP w' w.heap.size Hb 4000 V (tabN k W R R.length) ∧ Below w.heap.size w w' ∧ w.heap.size ≤ X ∧ w.heap.size ≤ Hb := by
  have hmm : ∀ W', _ := fun W' => run_makeMap (P := Tryz.prog) 57 W'
  obtain ⟨n, hn⟩ : ∃ n, n = R.length := ⟨_, rfl⟩
  have HN : Hid (n = R.length) := hn
  have HG : Hid (∀ x ∈ R, good x.b) := hg
  have HSU : Hid (sumN R n ≤ 4000) := by rw [hn]; exact hsum
  have HO : Hid (OwnR w base 62 2 rv n (qcells R)) := by rw [hn]; exact hown
  rw [← hn] at hR hown ⊢
  obtain ⟨ao, cp, hv, hs⟩ : ∃ ao cp, rv = .slice ao n cp ∧ (n ≠ 0 → ∃ g o, ao = some ⟨g, o, none⟩ ∧ g < w.heap.size) := by
    rcases hown.2 with ⟨h, h0⟩ | ⟨g, o, cap, cur, h, _, hg, _⟩
    · exact ⟨none, 0, by rw [h, h0], fun h' => absurd h0 h'⟩
    · exact ⟨_, _, h, fun _ => ⟨g, o, rfl, lt_of_block hg⟩⟩
  subst hv
  clear hn hown hg hsum
  go_enter Tryz.func18, Tryz.ntmps18
  go_wp2
  go_loopw [16] (fun i wr => ∃ j : Nat, j ≤ n ∧ i = .int .i64 j ∧ wr.heap[w.heap.size + 1 + 1]? = some (.cells (ixC k W sc (.slice ao n cp) (.map (some (w.heap.size + 1)))) 59 (0, 0)) ∧ (∃ V, HtP wr w.heap.size (w.heap.size + 1) (sumN R j) V (tabN k W R j)) ∧ Below w.heap.size w wr) (fun i _ => n - (RowKit.intOf i).toNat)
  case atStart =>
    refine ⟨0, Nat.zero_le _, rfl, ?_, ⟨fun _ => nilS, ?_⟩, ?_⟩
    · have := heap_alloc_new ((w.alloc (Obj.cells #[Value.int IntKind.i64 ↑k, Value.int IntKind.i64 ↑W, Value.float FloatKind.f64 sc] 24)).alloc (Obj.map #[] 0)) (Obj.cells #[Value.int IntKind.i64 ↑k, Value.int IntKind.i64 ↑W, Value.float FloatKind.f64 sc, Value.slice ao n cp, Value.map (some (w.heap.size + 1))] 59)
      have e1 : ((w.alloc (Obj.cells #[Value.int IntKind.i64 ↑k, Value.int IntKind.i64 ↑W, Value.float FloatKind.f64 sc] 24)).alloc (Obj.map #[] 0)).heap.size = w.heap.size + 1 + 1 := by simp
      rw [e1] at this
      exact this
    · have := GrP.made (w.alloc (Obj.cells #[Value.int IntKind.i64 ↑k, Value.int IntKind.i64 ↑W, Value.float FloatKind.f64 sc] 24)) Tryz.prog kI okI wcells rfl 3 78 3 w.heap.size
      have h2 := this.kept (w' := _) (fun j hj => Below.heap_alloc _ (Obj.cells #[Value.int IntKind.i64 ↑k, Value.int IntKind.i64 ↑W, Value.float FloatKind.f64 sc, Value.slice ao n cp, Value.map (some (w.heap.size + 1))] 59) j hj)
      have e1 : (w.alloc (Obj.cells #[Value.int IntKind.i64 ↑k, Value.int IntKind.i64 ↑W, Value.float FloatKind.f64 sc] 24)).heap.size = w.heap.size + 1 := by simp
      rw [e1] at h2
      exact h2
    · exact (((Below.refl _ _).alloc (Nat.le_refl _) _).alloc (by simp) _).alloc (by simp; omega) _
  case round =>
    obtain ⟨j, hj, rfl, hix, ⟨V, hV⟩, hbl⟩ := hrel
    have HB : Hid (Below w.heap.size w wr) := hbl
    have HV : Hid (HtP wr w.heap.size (w.heap.size + 1) (sumN R j) V (tabN k W R j)) := hV
    have HX : Hid (wr.heap[w.heap.size + 1 + 1]? = some (.cells (ixC k W sc (.slice ao n cp) (.map (some (w.heap.size + 1)))) 59 (0, 0))) := hix
    have hXl : w.heap.size + 1 + 1 < wr.heap.size := lt_of_block hix
    by_cases hlt : j < n
    · obtain ⟨g, o, rfl, hgl⟩ := hs (by omega)
      have hjR : j < R.length := by have := HN.out; omega
      have hc := (HO.out.other (w' := wr) (fun g' _ hlt' => HB.out.block g' hlt')).seqs j hjR
      obtain ⟨x, hx⟩ : ∃ x, x = R[j] := ⟨_, rfl⟩
      rw [← hx] at hc
      obtain ⟨d0, d1⟩ := hc
      have hxg : good x.b := HG.out x (by rw [hx]; exact List.getElem_mem _)
      have c4 : wr.cell? ⟨w.heap.size + 1 + 1, 4, none⟩ = some (.map (some (w.heap.size + 1))) := cell_at hix rfl
      have HXJ : Hid (R.getD j S0 = x) := by show _ = _; rw [getD_get _ _ _ hjR, hx]
      clear hx hix hV hbl
      go_wp2_with fail
      obtain ⟨w2, hw2⟩ : ∃ W' : World, W' = (wr.alloc (Obj.cells #[Value.string x.n, Value.string x.b] 62)).alloc (Obj.cells #[Value.int IntKind.i64 ↑j, Value.map (some (w.heap.size + 1))] 86) := ⟨_, rfl⟩
      have hb2 : Below wr.heap.size wr w2 := by rw [hw2]; exact ((Below.refl _ _).alloc (Nat.le_refl _) _).alloc (by simp) _
      have hE2 : w2.heap[wr.heap.size + 1]? = some (.cells #[.int .i64 j, .map (some (w.heap.size + 1))] 86 (0, 0)) := by
        have := heap_alloc_new (wr.alloc (Obj.cells #[Value.string x.n, Value.string x.b] 62)) (Obj.cells #[Value.int IntKind.i64 ↑j, Value.map (some (w.heap.size + 1))] 86)
        have e1 : (wr.alloc (Obj.cells #[Value.string x.n, Value.string x.b] 62)).heap.size = wr.heap.size + 1 := by simp
        rw [e1] at this
        rw [hw2]; exact this
      rw [← hw2]
      have hX2 := (hb2.block _ hXl).trans HX.out
      have hxsz : sumN R j + x.b.size ≤ 4000 := by
        have h1 := sumN_mono R (j + 1) n (by omega)
        have h2 : sumN R (j + 1) = sumN R j + x.b.size := by show sumN R j + (R.getD j S0).b.size = _; rw [HXJ.out]
        have := HSU.out
        omega
      have hwl := wds_len hk1 hk2 hW hxg (W := W) (k := k)
      have hst : NwI w (w.heap.size + 1 + 1) (w.heap.size + 1) (wr.heap.size + 1) (ixC k W sc (.slice (some ⟨g, o, none⟩) n cp) (.map (some (w.heap.size + 1)))) j (tabN k W R j) (sumN R j) w2 :=
        ⟨hX2, hE2, ⟨V, HV.out.kept (fun g hg => hb2.block g hg)⟩, HB.out.trans (hb2.mono HB.out.size), by omega⟩
      have HTL : Hid (∀ a, (tabN k W R j a).length ≤ sumN R j) := tabN_len hk1 hk2 hW R HG.out j (by omega)
      clear hw2 hE2 d0 d1 c4 hs
      refine (eachWord_any 34 enterEword (.pointer (some ⟨wr.heap.size + 1, 0, none⟩)) x.b (w.heap.size + 1 + 1) k W sc _ _ w2 (by omega) hk1 hk2 hW hW2 hxg hX2
        (fun i wr' => NwI w (w.heap.size + 1 + 1) (w.heap.size + 1) (wr.heap.size + 1) (ixC k W sc (.slice (some ⟨g, o, none⟩) n cp) (.map (some (w.heap.size + 1)))) j (entL j (tabN k W R j) ((wds k W x.b).take i)) (sumN R j + i) wr')
        (fun i hi wr' hI => ?_) (fun i wr' w' hI hb => hI.kept hb) hst (by omega)).mono ?_
      · rw [entL_take _ _ _ i hi]
        have hok := wds_ok hk1 hk2 hW hxg (List.getElem_mem hi)
        refine hI.step _ (okI_of hok.1 hok.2.1) (by omega) ?_
        have := entL_len j ((wds k W x.b).take i) (tabN k W R j) _ HTL.out (wds k W x.b)[i].h
        simp only [List.length_take] at this
        omega
      · rintro e w3 ⟨rfl, hI3⟩
        rw [List.take_length] at hI3
        have HI3 := (show Hid _ from hI3)
        have HTN : Hid (tabN k W R (j + 1) = entL j (tabN k W R j) (wds k W x.b)) := by show entL j (tabN k W R j) (wds k W (R.getD j S0).b) = _; rw [HXJ.out]
        have HSN : Hid (sumN R (j + 1) = sumN R j + x.b.size) := by show sumN R j + (R.getD j S0).b.size = _; rw [HXJ.out]
        clear hI3 hst hX2 hb2
        go_wp2
        go_roundw
        case rel =>
          refine ⟨j + 1, by omega, by go_num, HI3.out.ix, ?_, HI3.out.bl⟩
          obtain ⟨V', hV'⟩ := HI3.out.ht
          rw [HTN.out, HSN.out]
          exact ⟨V', hV'.mono (by omega)⟩
        case measure => simp [RowKit.intOf]; omega
    · have hjn : j = n := by omega
      subst hjn
      clear hix hV hbl
      go_wp2
      go_ret
      exact ⟨_, _, V, rfl, HX.out, HV.out.mono HSU.out, HB.out, by omega, by omega⟩
end Go.Proofs.YtilcmkiihefkkabGreatDoor.Mn
end
section
set_option linter.unusedVariables false
set_option linter.unusedSimpArgs false
set_option maxRecDepth 100000
namespace Go.Proofs.YtilcmkiihefkkabGreatDoor.Mn
open Go.RowKit Go.Maps
theorem good_app {a b : ByteArray} (ha : good a) (hb : good b) : good (a ++ b) := by
  have h : ∀ c ∈ (a.data.toList ++ b.data.toList), 0 ≤ numb c := by
    intro c hc
    rcases List.mem_append.1 hc with h | h
    · exact good_list ha c h
    · exact good_list hb c h
  have := list_good h
  have e : (⟨(a.data.toList ++ b.data.toList).toArray⟩ : ByteArray) = a ++ b := by
    apply ByteArray.ext
    simp
  rwa [e] at this
theorem good_empty : good ⟨#[]⟩ := fun j hj => absurd hj (Nat.not_lt_zero _)
/-- what parsed sequences are -/
def PsOK (L : List S2) (i : Nat) : Prop := L.length ≤ i ∧ ∀ y ∈ L, good y.b ∧ nameOK y.n ∧ y.b.size ≤ 8000 * i
theorem pstep_ok (L : List S2) (x : ByteArray) (i : Nat) (h : PsOK L i) (hx : x.size ≤ 8000) (h0 : (pstep L x).1 = 0) : PsOK (pstep L x).2 (i + 1) := by
  by_cases hb : begins x
  · by_cases hn : nameOK (tl x)
    · by_cases hh : hasN L (tl x)
      · rw [pstep_twice hb hn hh] at h0; exact absurd h0 (by decide)
      · rw [pstep_begin hb hn hh]
        refine ⟨by simp; have := h.1; omega, fun y hy => ?_⟩
        rcases List.mem_append.1 hy with hy | hy
        · have := h.2 y hy; exact ⟨this.1, this.2.1, by omega⟩
        · simp at hy; subst hy; exact ⟨good_empty, hn, Nat.zero_le _⟩
    · rw [pstep_name hb hn] at h0; exact absurd h0 (by decide)
  · by_cases hL : L = []
    · rw [pstep_line hb hL] at h0; exact absurd h0 (by decide)
    · by_cases hg : good x
      · rw [pstep_bases hb hL hg]
        obtain ⟨A, y, rfl⟩ := snoc_of hL
        rw [addB_snoc]
        refine ⟨by have := h.1; simp at this ⊢; omega, fun z hz => ?_⟩
        rcases List.mem_append.1 hz with hz | hz
        · have := h.2 z (List.mem_append_left _ hz); exact ⟨this.1, this.2.1, by omega⟩
        · have hy := h.2 y (List.mem_append_right _ (List.mem_singleton.2 rfl))
          simp at hz; subst hz
          refine ⟨good_app hy.1 hg, hy.2.1, ?_⟩
          show (y.b ++ x).size ≤ _
          rw [ByteArray.size_append]
          omega
      · rw [pstep_byte hb hL hg] at h0; exact absurd h0 (by decide)
theorem parseL_ok2 : ∀ (l : List ByteArray) (i j : Nat) (L : List S2), PsOK L j → (∀ x ∈ l, x.size ≤ 8000) → PsOK (parseL i L l).1 (j + l.length)
  | [], i, j, L, h, _ => h
  | x :: r, i, j, L, h, hx => by
    unfold parseL
    split
    · rename_i h0
      have := parseL_ok2 r (i + 1) (j + 1) _ (pstep_ok L x j h (hx x (List.mem_cons_self)) h0) (fun y hy => hx y (List.mem_cons_of_mem _ hy))
      rw [List.length_cons, show j + (r.length + 1) = j + 1 + r.length by omega]
      exact this
    · exact ⟨Nat.zero_le _, fun y hy => by cases hy⟩
theorem parseR_ok (s : ByteArray) : PsOK (parseR s).1 8000 := by
  unfold parseR
  split
  · exact ⟨Nat.zero_le _, fun y hy => by cases hy⟩
  · rename_i h8
    have h := parseL_ok2 (linesB s) 0 0 [] ⟨Nat.le_refl _, fun y hy => by cases hy⟩ (fun x hx => by have := linesB_size s x hx; omega)
    have hl := linesB_length s
    exact ⟨Nat.le_trans h.1 (by omega), fun y hy => by have := h.2 y hy; exact ⟨this.1, this.2.1, by have := this.2.2; omega⟩⟩
/-- an index as it lies -/
def IxP (w : World) (base X : Nat) (R : List S2) (k W sc : Nat) : Prop :=
  ∃ rv Hb V, w.heap[X]? = some (.cells (ixC k W sc rv (.map (some Hb))) 59 (0, 0)) ∧ OwnR w base 62 2 rv R.length (qcells R) ∧ HtP w base Hb 4000 V (tabN k W R R.length) ∧ base ≤ X ∧ base ≤ Hb
theorem IxP.kept {w w' : World} {base X : Nat} {R : List S2} {k W sc : Nat} (h : IxP w base X R k W sc) (hb : ∀ g, g < w.heap.size → w'.heap[g]? = w.heap[g]?) : IxP w' base X R k W sc := by
  obtain ⟨rv, Hb, V, h1, h2, h3, h4⟩ := h
  exact ⟨rv, Hb, V, (hb _ (lt_of_block h1)).trans h1, h2.other (fun g _ hg => hb g hg), h3.kept hb, h4⟩
/-- what New answers -/
def newR (s : ByteArray) (k W : Int) (sc : Nat) : Int × Int :=
  if optB k W sc = true then (if (parseR s).2.1 = 0 then (refsE (parseR s).1, 0) else (((parseR s).2.1 : Nat), ((parseR s).2.2 : Nat))) else (6, 0)
def NewP (s : ByteArray) (k W : Int) (sc : Nat) (w : World) (e : Ending) (w' : World) : Prop :=
  ∃ v, e = .returned (.tuple #[v, .int .i64 (newR s k W sc).1, .int .i64 (newR s k W sc).2]) ∧ Below w.heap.size w w' ∧ ((newR s k W sc).1 ≠ 0 → v = .pointer none) ∧
    ((newR s k W sc).1 = 0 → ∃ X, v = .pointer (some ⟨X, 0, none⟩) ∧ IxP w' w.heap.size X (parseR s).1 k.toNat W.toNat sc ∧ (1 ≤ k ∧ k ≤ 12) ∧ (1 ≤ W ∧ W ≤ 20) ∧ (parseR s).1.length ≠ 0 ∧ sumN (parseR s).1 (parseR s).1.length ≤ 4000)
set_option maxHeartbeats 4000000 in
theorem New_any (s : ByteArray) (k W : Int) (sc : Nat) (w : World) (hs : s.size ≤ 140737488351232) :
    Calls Tryz.prog 6 #[.string s, .agg #[.int .i64 k, .int .i64 W, .float .f64 sc]] w fun e w' => NewP s k W sc w e w' := by
  have hbA : Below w.heap.size w (w.alloc (Obj.cells #[Value.int IntKind.i64 k, Value.int IntKind.i64 W, Value.float .f64 sc] 24)) := (Below.refl _ _).alloc (Nat.le_refl _) _
  by_cases ho : optB k W sc = true
  · have hkw : (1 ≤ k ∧ k ≤ 12) ∧ (1 ≤ W ∧ W ≤ 20) := by
      unfold optB at ho
      simp only [Bool.and_eq_true, decide_eq_true_eq] at ho
      exact ⟨⟨ho.1.1.1.1.1, ho.1.1.1.1.2⟩, ⟨ho.1.1.1.2, ho.1.1.2⟩⟩
    obtain ⟨k', rfl⟩ : ∃ k' : Nat, k = k' := ⟨k.toNat, by omega⟩
    obtain ⟨W', rfl⟩ : ∃ W' : Nat, W = W' := ⟨W.toNat, by omega⟩
    have HP := (show Hid _ from parseR_ok s)
    by_cases he : (parseR s).2.1 = 0
    · have hline : (parseR s).2.2 = 0 := by
        by_cases h8 : 8000 < s.size
        · unfold parseR at he; rw [if_pos h8] at he; cases he
        · unfold parseR at he ⊢; rw [if_neg h8] at he ⊢; exact parseL_zero _ _ _ he
      have cO := optsMay_any (k' : Int) (W' : Int) sc
      rw [ho] at cO
      have cP : ∀ W1, _ := fun W1 => parse_any s W1 hs
      rw [he, hline] at cP
      obtain ⟨R, hRR⟩ : ∃ R, R = (parseR s).1 := ⟨_, rfl⟩
      rw [← hRR] at cP HP
      have HRR : Hid (R = (parseR s).1) := hRR
      have HNR : Hid (newR s k' W' sc = (refsE R, 0)) := by show _ = _; unfold newR; rw [if_pos ho, if_pos he, hRR]
      have HB : Hid (Below w.heap.size w (w.alloc (Obj.cells #[Value.int IntKind.i64 k', Value.int IntKind.i64 W', Value.float .f64 sc] 24))) := hbA
      have HW0 : Hid ((w.alloc (Obj.cells #[Value.int IntKind.i64 k', Value.int IntKind.i64 W', Value.float .f64 sc] 24)).heap[w.heap.size]? = some (.cells #[Value.int IntKind.i64 k', Value.int IntKind.i64 W', Value.float .f64 sc] 24 (0, 0))) := heap_alloc_new w _
      have HSZ0 : Hid ((w.alloc (Obj.cells #[Value.int IntKind.i64 k', Value.int IntKind.i64 W', Value.float .f64 sc] 24)).heap.size = w.heap.size + 1) := by show _ = _; simp
      by_cases hr : refsE R = 0
      · have hRne : R.length ≠ 0 ∧ sumN R R.length ≤ 4000 := by
          unfold refsE at hr
          split at hr
          · cases hr
          · split at hr
            · cases hr
            · exact ⟨by assumption, by omega⟩
        clear he hline hRR ho hbA
        go_enter Tryz.func6, Tryz.ntmps6
        go_wp2_with (go_at_call 15; refine (cO _).mono ?_; rintro e w1 ⟨rfl, hb1⟩)
        refine (cP w1).mono ?_
        rintro e w2 ⟨v, rfl, hown, _, hb2⟩
        have HO2 : Hid (OwnR w2 w1.heap.size 62 2 v R.length (qcells R)) := hown
        have HB1 : Hid (Below (w.heap.size + 1) (w.alloc (Obj.cells #[Value.int IntKind.i64 k', Value.int IntKind.i64 W', Value.float .f64 sc] 24)) w1) := by have := hb1; rw [HSZ0.out] at this; exact this
        have HB2 : Hid (Below w1.heap.size w1 w2) := hb2
        obtain ⟨ao, cp, rfl⟩ := hown.form
        clear hown hb1 hb2
        have cR := refsErr_any R w1.heap.size (.slice ao R.length cp) w2 (by have := HP.out.1; omega) (fun x hx => by have := (HP.out.2 x hx).2.2; omega) HO2.out
        rw [hr] at cR
        go_wp2_with fail
        refine cR.mono ?_
        rintro e w3 ⟨rfl, hb3⟩
        have HB3 : Hid (Below w2.heap.size w2 w3) := hb3
        have h1s := HB1.out.size
        rw [HSZ0.out] at h1s
        have h2s := HB2.out.size
        have hW3 : w3.heap[w.heap.size]? = some (.cells #[Value.int IntKind.i64 k', Value.int IntKind.i64 W', Value.float .f64 sc] 24 (0, 0)) :=
          (hb3.block _ (by omega)).trans ((HB2.out.block _ (by omega)).trans ((HB1.out.block _ (by omega)).trans HW0.out))
        have q0 := cell_at hW3 (i := 0) rfl
        have q1 := cell_at hW3 (i := 1) rfl
        have q2 := cell_at hW3 (i := 2) rfl
        have cN := newIndex_any R w1.heap.size (.slice ao R.length cp) k' W' sc w3 (by omega) (by omega) (by omega) (by omega) (by have := HP.out.1; omega) (fun x hx => (HP.out.2 x hx).1) hRne.2 (HO2.out.other (fun g _ hg => hb3.block g hg))
        clear hb3 cR hW3
        go_wp2_with fail
        refine cN.mono ?_
        rintro e w4 ⟨X, Hb, V, rfl, hX, hV, hb4, hx1, hx2⟩
        have HX := (show Hid _ from hX)
        have HV := (show Hid _ from hV)
        have HB4 := (show Hid _ from hb4)
        clear hX hV hb4 cN q0 q1 q2
        go_wp2
        go_ret3
        have h3s := HB3.out.size
        have hb04 : Below w.heap.size w w4 := (((HB.out.trans (HB1.out.mono (by omega))).trans (HB2.out.mono (by omega))).trans (HB3.out.mono (by omega))).trans (HB4.out.mono (by omega))
        refine ⟨_, ?_, hb04, fun h => ?_, fun _ => ⟨X, rfl, ⟨_, Hb, V, HX.out, ?_, ?_, by omega, by omega⟩, by omega, by omega, ?_, ?_⟩⟩
        · rw [HNR.out, hr]; rfl
        · rw [HNR.out] at h; exact absurd hr h
        · rw [← HRR.out]
          exact ((HO2.out.other (fun g _ hg => HB3.out.block g hg)).other (fun g _ hg => HB4.out.block g hg)).low (by omega)
        · rw [← HRR.out]
          have h5 := HV.out
          exact ⟨h5.map, fun x hx => (h5.own x hx).low (by omega), h5.apart⟩
        · rw [← HRR.out]; exact hRne.1
        · rw [← HRR.out]; exact hRne.2
      · have hrI : ¬ refsE R = 0 := hr
        clear he hline hRR ho hbA hr
        go_enter Tryz.func6, Tryz.ntmps6
        go_wp2_with (go_at_call 15; refine (cO _).mono ?_; rintro e w1 ⟨rfl, hb1⟩)
        refine (cP w1).mono ?_
        rintro e w2 ⟨v, rfl, hown, _, hb2⟩
        have HO2 : Hid (OwnR w2 w1.heap.size 62 2 v R.length (qcells R)) := hown
        have HB1 : Hid (Below (w.heap.size + 1) (w.alloc (Obj.cells #[Value.int IntKind.i64 k', Value.int IntKind.i64 W', Value.float .f64 sc] 24)) w1) := by have := hb1; rw [HSZ0.out] at this; exact this
        have HB2 : Hid (Below w1.heap.size w1 w2) := hb2
        obtain ⟨ao, cp, rfl⟩ := hown.form
        clear hown hb1 hb2
        have cR := refsErr_any R w1.heap.size (.slice ao R.length cp) w2 (by have := HP.out.1; omega) (fun x hx => by have := (HP.out.2 x hx).2.2; omega) HO2.out
        go_wp2_with fail
        refine cR.mono ?_
        rintro e w3 ⟨rfl, hb3⟩
        have HB3 : Hid (Below w2.heap.size w2 w3) := hb3
        clear hb3 cR
        go_wp2
        go_ret3
        have h1s := HB1.out.size
        rw [HSZ0.out] at h1s
        have h2s := HB2.out.size
        have hb03 : Below w.heap.size w w3 := ((HB.out.trans (HB1.out.mono (by omega))).trans (HB2.out.mono (by omega))).trans (HB3.out.mono (by omega))
        refine ⟨_, ?_, hb03, fun _ => rfl, fun h => ?_⟩
        · rw [HNR.out]; rfl
        · rw [HNR.out] at h; exact absurd h hrI
    · have cO := optsMay_any (k' : Int) (W' : Int) sc
      rw [ho] at cO
      have cP : ∀ W1, _ := fun W1 => parse_any s W1 hs
      have HNR : Hid (newR s k' W' sc = (((parseR s).2.1 : Int), ((parseR s).2.2 : Int))) := by show _ = _; unfold newR; rw [if_pos ho, if_neg he]
      obtain ⟨en, hen⟩ : ∃ en, en = (parseR s).2.1 := ⟨_, rfl⟩
      obtain ⟨ln, hln⟩ : ∃ ln, ln = (parseR s).2.2 := ⟨_, rfl⟩
      rw [← hen, ← hln] at HNR cP
      rw [← hen] at he
      have heI : ¬ (en : Int) = 0 := by omega
      have HB : Hid (Below w.heap.size w (w.alloc (Obj.cells #[Value.int IntKind.i64 k', Value.int IntKind.i64 W', Value.float .f64 sc] 24))) := hbA
      have HSZ0 : Hid ((w.alloc (Obj.cells #[Value.int IntKind.i64 k', Value.int IntKind.i64 W', Value.float .f64 sc] 24)).heap.size = w.heap.size + 1) := by show _ = _; simp
      clear hen hln ho hbA
      go_enter Tryz.func6, Tryz.ntmps6
      go_wp2_with (go_at_call 15; refine (cO _).mono ?_; rintro e w1 ⟨rfl, hb1⟩)
      refine (cP w1).mono ?_
      rintro e w2 ⟨v, rfl, hown, _, hb2⟩
      have HB1 : Hid (Below (w.heap.size + 1) (w.alloc (Obj.cells #[Value.int IntKind.i64 k', Value.int IntKind.i64 W', Value.float .f64 sc] 24)) w1) := by have := hb1; rw [HSZ0.out] at this; exact this
      have HB2 : Hid (Below w1.heap.size w1 w2) := hb2
      clear hown hb1 hb2
      go_wp2
      go_ret3
      have h1s := HB1.out.size
      rw [HSZ0.out] at h1s
      have hb02 : Below w.heap.size w w2 := (HB.out.trans (HB1.out.mono (by omega))).trans (HB2.out.mono (by omega))
      refine ⟨_, ?_, hb02, fun _ => rfl, fun h => ?_⟩
      · rw [HNR.out]; rfl
      · rw [HNR.out] at h; exact absurd h heI
  · have ho' : optB k W sc = false := by simpa using ho
    have cO := optsMay_any k W sc
    rw [ho'] at cO
    have HR : Hid (newR s k W sc = (6, 0)) := by show _ = _; unfold newR; rw [if_neg ho]
    have HB : Hid (Below w.heap.size w (w.alloc (Obj.cells #[Value.int IntKind.i64 k, Value.int IntKind.i64 W, Value.float .f64 sc] 24))) := hbA
    clear ho ho' hbA
    go_enter Tryz.func6, Tryz.ntmps6
    go_wp2_with (go_at_call 15; refine (cO _).mono ?_; rintro e w1 ⟨rfl, hb1⟩)
    go_ret3
    refine ⟨_, ?_, HB.out.trans (hb1.mono HB.out.size), fun _ => rfl, fun h => ?_⟩
    · rw [HR.out]; rfl
    · rw [HR.out] at h; cases h
end Go.Proofs.YtilcmkiihefkkabGreatDoor.Mn
end
section
set_option linter.unusedVariables false
set_option linter.unusedSimpArgs false
set_option maxRecDepth 100000
namespace Go.Proofs.YtilcmkiihefkkabGreatDoor.Mn
open Go.RowKit Go.Maps
/-- a text of one sequence whose name has one letter -/
def ofL (n : UInt8) (b : ByteArray) : List UInt8 := 62 :: n :: 10 :: b.data.toList
def of2 (a b : ByteArray) : List UInt8 := 62 :: 97 :: 10 :: (a.data.toList ++ 10 :: ofL 98 b)
theorem good_bytes {b : ByteArray} (h : good b) : ∀ c ∈ b.data.toList, c ≠ 10 ∧ c ≠ 62 := by
  intro c hc
  have h0 := good_list h c hc
  constructor <;> (intro e; subst e; revert h0; decide)
theorem lines_last {b : ByteArray} (h : good b) : (linesA [] b.data.toList).map (fun l => (⟨l.toArray⟩ : ByteArray)) = if b.data.toList = [] then [] else [b] := by
  have e := linesA_run b.data.toList [] [] (fun c hc => (good_bytes h c hc).1)
  rw [List.append_nil, List.nil_append] at e
  rw [e, linesA]
  split
  · rfl
  · simp
theorem lines_mid {b : ByteArray} (h : good b) (r : List UInt8) : (linesA [] (b.data.toList ++ 10 :: r)).map (fun l => (⟨l.toArray⟩ : ByteArray)) = b :: (linesA [] r).map (fun l => (⟨l.toArray⟩ : ByteArray)) := by
  rw [linesA_run b.data.toList [] (10 :: r) (fun c hc => (good_bytes h c hc).1), List.nil_append, linesA, if_pos rfl]
  simp
theorem lines_head (n : UInt8) (hn : n ≠ 10) (r : List UInt8) : (linesA [] (62 :: n :: 10 :: r)).map (fun l => (⟨l.toArray⟩ : ByteArray)) = ⟨#[62, n]⟩ :: (linesA [] r).map (fun l => (⟨l.toArray⟩ : ByteArray)) := by
  have e := linesA_run [62, n] [] (10 :: r) (by intro c hc; simp at hc; rcases hc with rfl | rfl; decide; exact hn)
  have e2 : ([62, n] : List UInt8) ++ 10 :: r = 62 :: n :: 10 :: r := rfl
  rw [e2] at e
  rw [e, List.nil_append, linesA, if_pos rfl]
  rfl
theorem tl2 (n : UInt8) : tl ⟨#[62, n]⟩ = ⟨#[n]⟩ := rfl
theorem name1 (n : UInt8) (h1 : 33 ≤ n.toNat) (h2 : n.toNat ≤ 126) : nameOK ⟨#[n]⟩ := by
  refine ⟨Nat.le_refl _, by show 1 ≤ 16; omega, fun j hj => ?_⟩
  have hj0 : j = 0 := by have : j < 1 := hj; omega
  subst hj0
  exact ⟨h1, h2⟩
theorem step_name (L : List S2) (n : UInt8) (h1 : 33 ≤ n.toNat) (h2 : n.toNat ≤ 126) (h3 : ¬ hasN L ⟨#[n]⟩) : pstep L ⟨#[62, n]⟩ = (0, L ++ [⟨⟨#[n]⟩, ⟨#[]⟩⟩]) := by
  have := pstep_begin (L := L) (x := ⟨#[62, n]⟩) ⟨by show 0 < 2; omega, rfl⟩ (by rw [tl2]; exact name1 n h1 h2) (by rw [tl2]; exact h3)
  rwa [tl2] at this
theorem step_bases (L : List S2) (n b : ByteArray) (h : good b) : pstep (L ++ [⟨n, ⟨#[]⟩⟩]) b = (0, L ++ [⟨n, b⟩]) := by
  have hb : ¬ begins b := by
    rintro ⟨h0, e⟩
    have hm : b[0] ∈ b.data.toList := by
      have : b[0] = b.data.toList[0]'(by rw [Array.length_toList]; exact h0) := by rw [Array.getElem_toList]; rfl
      rw [this]; exact List.getElem_mem _
    exact (good_bytes h _ hm).2 e
  rw [pstep_bases hb (by simp) h, addB_snoc]
  have : (⟨#[]⟩ : ByteArray) ++ b = b := by apply ByteArray.ext; simp
  rw [this]
theorem parse_last (i : Nat) (L : List S2) (n : UInt8) (b : ByteArray) (hb : good b) (h1 : 33 ≤ n.toNat) (h2 : n.toNat ≤ 126) (h3 : ¬ hasN L ⟨#[n]⟩) :
    parseL i L ((linesA [] (ofL n b)).map (fun l => (⟨l.toArray⟩ : ByteArray))) = (L ++ [⟨⟨#[n]⟩, b⟩], 0, 0) := by
  have hn : n ≠ 10 := by intro e; subst e; revert h1; decide
  unfold ofL
  rw [lines_head n hn, parseL_ok (step_name L n h1 h2 h3), lines_last hb]
  split
  · rename_i e
    have : b = ⟨#[]⟩ := by apply ByteArray.ext; have := congrArg List.toArray e; simpa using this
    rw [this]; rfl
  · rw [parseL_ok (step_bases L _ b hb)]; rfl
theorem ofL_len (n : UInt8) (b : ByteArray) : (ofL n b).length = b.size + 3 := by
  have : b.data.toList.length = b.size := Array.length_toList
  simp [ofL, this]
theorem parse_of (n : UInt8) (b : ByteArray) (hb : good b) (hs : b.size ≤ 7000) (h1 : 33 ≤ n.toNat) (h2 : n.toNat ≤ 126) : parseR ⟨(ofL n b).toArray⟩ = ([⟨⟨#[n]⟩, b⟩], 0, 0) := by
  have hl := ofL_len n b
  unfold parseR
  rw [if_neg (by show ¬ 8000 < (ofL n b).toArray.size; simp only [List.size_toArray]; omega)]
  exact parse_last 0 [] n b hb h1 h2 (by rintro ⟨x, hx, _⟩; cases hx)
theorem parse_of2 (a b : ByteArray) (ha : good a) (hb : good b) (hs : a.size ≤ 3000) (hs2 : b.size ≤ 3000) : parseR ⟨(of2 a b).toArray⟩ = ([⟨⟨#[97]⟩, a⟩, ⟨⟨#[98]⟩, b⟩], 0, 0) := by
  have hl := ofL_len 98 b
  have hla : a.data.toList.length = a.size := Array.length_toList
  unfold parseR
  rw [if_neg (by show ¬ 8000 < (of2 a b).toArray.size; simp only [List.size_toArray, of2, List.length_cons, List.length_append]; omega)]
  show parseL 0 [] ((linesA [] (of2 a b)).map (fun l => (⟨l.toArray⟩ : ByteArray))) = _
  unfold of2
  rw [lines_head 97 (by decide), parseL_ok (step_name [] 97 (by decide) (by decide) (by rintro ⟨x, hx, _⟩; cases hx)), lines_mid ha, parseL_ok (step_bases [] _ a ha)]
  rw [parse_last _ _ 98 b hb (by decide) (by decide)]
  · rfl
  · rintro ⟨x, hx, e⟩
    simp at hx
    subst hx
    revert e
    show ¬ (⟨#[97]⟩ : ByteArray) = ⟨#[98]⟩
    intro e
    have := congrArg ByteArray.data e
    simp at this
end Go.Proofs.YtilcmkiihefkkabGreatDoor.Mn
end
section
set_option linter.unusedVariables false
set_option linter.unusedSimpArgs false
set_option maxRecDepth 100000
namespace Go.Proofs.YtilcmkiihefkkabGreatDoor.Mn
open Go.RowKit Go.Maps
/-- a list of hits of the caller's own -/
def HitsP (L : List W3) (w : World) (e : Ending) (w' : World) : Prop := ∃ v, e = .returned v ∧ Below w.heap.size w w' ∧ OwnR w' w.heap.size 78 3 v L.length (wcells L)
theorem w_oneCell (L : List W3) : ∀ u ∈ wcells L, u.oneCell' = true := by
  intro u hu
  obtain ⟨x, _, hx⟩ := List.mem_flatMap.1 (show u ∈ L.flatMap _ from hu)
  simp only [W3.cells, List.mem_cons, List.not_mem_nil, or_false] at hx
  rcases hx with rfl | rfl | rfl <;> rfl
/-- an append whose run is known -/
theorem wpList_appR {P : Program} (w : World) {ops : Array Oper} {rest : List Oper} {o : Oper} {a : Act} {Q : Exit → Act → World → Prop} (hg : o.guard = none) (s x : Operand) (t : TypeId)
    (hop : o.op = Op.call { callee := Callee.builtin Builtin.append, args := #[s, x], argTypes := #[t, t] }) (v1 v2 v' : Value) (w' : World) (hs : a.eval s = v1) (hx : a.eval x = v2)
    (hrun : (Builtin.append_ #[t, t] o.type #[v1, v2]).run P w = .ok v' w') (hK : wpList P ops Q rest (a.put o.dst v') w') : wpList P ops Q (o :: rest) a w := by
  refine wpList_plain hg fun K hK' => ?_
  unfold Oper.wp
  simp [execOp, hop, resolve, invoke, builtin, hs, hx, hrun, Result.andThen]
  exact hK' _ _ hK
set_option maxHeartbeats 1000000 in
theorem cloneH_any (L : List W3) (base : Nat) (v : Value) (w : World) (hl : L.length ≤ 100000) (hown : OwnR w base 78 3 v L.length (wcells L)) :
    Calls Tryz.prog 29 #[v] w fun e w' => HitsP L w e w' := by
  obtain ⟨i0, hi, hz0, hz1, hz2⟩ := info_parts Tryz.info78x
  rcases hown.2 with ⟨rfl, h0⟩ | ⟨g, o, cap, cur, rfl, hb, hg, hn, hm, hs, hc⟩
  · obtain rfl : L = [] := List.eq_nil_of_length_eq_zero h0
    have heq := fun W => Lib.run_eql_slice_nil (P := Tryz.prog) W 41 78 none 0 0 0 0 Tryz.underlying41
    go_enter Tryz.func29, Tryz.ntmps29
    go_wp2_with fail
    go_ret
    exact ⟨_, rfl, Below.refl _ _, OwnR.nil _ _ _ _⟩
  · obtain ⟨n, hnl⟩ : ∃ n, n = L.length := ⟨_, rfl⟩
    rw [← hnl] at hl hn hown ⊢
    have HW := (show Hid _ from hc)
    have HNL : Hid (n = L.length) := hnl
    have HG : Hid (w.heap[g]? = some (.cells cur 78 (0, 0))) := hg
    have hgl := lt_of_block hg
    have heq := fun W => Lib.run_eql_slice_nil (P := Tryz.prog) W 41 78 (some ⟨g, o, none⟩) n cap 0 0 Tryz.underlying41
    have hlen : (wcells L).length = n * 3 := by rw [hnl]; exact hown.1.trans (by rw [hnl])
    obtain ⟨v', w', hrun, hown', hgr, _⟩ := run_append_own (P := Tryz.prog) (w.alloc (.cells #[] 78)) w.heap.size 41 41 78 i0 _ 3 24 Tryz.underlying41 hi hz0 hz1 hz2 rfl (by decide)
      (.slice (some ⟨w.heap.size, 0, none⟩) 0 0) 0 [] ⟨by simp, Or.inr ⟨w.heap.size, 0, #[], rfl, Nat.le_refl _, heap_alloc_new w _, Nat.le_refl _, by unfold maxLen; omega, by simp, by simp⟩⟩ ⟨g, o, none⟩ n cap (wcells L) hlen
      (fun j u hj => by rw [Addr.add_lit]; exact cell_at ((Below.heap_alloc w _ g (lt_of_block hg)).trans hg) (hc j u hj)) (w_oneCell L) (by unfold maxLen; omega) (by omega) (by simp)
    have HO := (show Hid _ from hown')
    have HGR := (show Hid _ from hgr)
    clear hc hown hg hnl hlen hown' hgr
    go_enter Tryz.func29, Tryz.ntmps29
    go_wp2_with (at_builtin; refine wpList_appR _ rfl (.tmp 5) (.tmp 6) 41 rfl _ _ v' w' rfl rfl hrun ?_)
    go_ret
    refine ⟨v', rfl, ?_, ?_⟩
    · have h1 : Below w.heap.size w (w.alloc (.cells #[] 78)) := (Below.refl _ w).alloc (Nat.le_refl _) _
      refine h1.trans ⟨HGR.out.os, HGR.out.tape, HGR.out.output, HGR.out.size, fun j hj => HGR.out.block j (by simp; omega) (by simp [Value.ownBlock]; omega)⟩
    · rw [← HNL.out]
      have := OwnR.of_ownsRow HO.out (Nat.le_refl _)
      simpa using this
/-- Lookup -/
theorem Lookup_any (R : List S2) (base X k W sc : Nat) (h : Int) (hh : okI h) (w : World) (hk1 : 1 ≤ k) (hk2 : k ≤ 12) (hW : 1 ≤ W) (hR : ∀ x ∈ R, good x.b) (hsum : sumN R R.length ≤ 4000) (hI : IxP w base X R k W sc) :
    Calls Tryz.prog 13 #[.pointer (some ⟨X, 0, none⟩), .int .i64 h] w fun e w' => HitsP (tabN k W R R.length h) w e w' := by
  obtain ⟨rv, Hb, V, hX, hO, hT, _, _⟩ := hI
  have hlk := hT.look lawI Tryz.underlying57 (zeroHits w) hh (keyI h hh)
  have hl := tabN_len hk1 hk2 hW R hR R.length (Nat.le_refl _) h
  have cC := cloneH_any (tabN k W R R.length h) base (V h) w (by omega) (hT.own h hh)
  have q4 : w.cell? ⟨X, 4, none⟩ = some (.map (some Hb)) := cell_at hX rfl
  obtain ⟨ao, cp, hv⟩ := (hT.own h hh).form
  rw [hv] at hlk cC
  generalize (tabN k W R R.length h) = L at *
  clear hX hO hT
  go_enter Tryz.func13, Tryz.ntmps13
  go_wp2_with fail
  refine cC.mono ?_
  rintro e w1 ⟨v, rfl, hb, ho⟩
  go_wp2
  go_ret
  exact ⟨v, rfl, hb, ho⟩
end Go.Proofs.YtilcmkiihefkkabGreatDoor.Mn
end
