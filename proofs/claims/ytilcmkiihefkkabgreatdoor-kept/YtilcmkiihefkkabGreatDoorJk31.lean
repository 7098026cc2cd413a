import Derived.Test.YtilcmkiihefkkabGreatDoorJk1
import Derived.Test.YtilcmkiihefkkabGreatDoorJk30
section
set_option linter.unusedVariables false
set_option linter.unusedSimpArgs false
set_option maxRecDepth 100000
namespace Go.Proofs.YtilcmkiihefkkabGreatDoor
open Go.RowKit Go.Shelf
set_option maxHeartbeats 4000000 in
theorem pscript_any (read ref : ByteArray) (w : World) (hl1 : read.size ≤ 140737488351232) (hl2 : ref.size ≤ 140737488351232) (htab : Lib.TabBelow Tryz.prog w.heap.size w "internal/strconv.uint64pow10" .u64 Lib.pow10Tab) :
    Calls Tryz.prog 62 #[.string read, .string ref] w fun e w' => e = .returned (.tuple #[.string ⟨(scT read.data.toList ref.data.toList).toArray⟩, .int .i64 (scN read.data.toList ref.data.toList : Nat), .int .i64 (scE read.data.toList ref.data.toList : Nat)]) ∧ Below w.heap.size w w' := by
  have HT : Hid (Lib.TabBelow Tryz.prog w.heap.size w "internal/strconv.uint64pow10" .u64 Lib.pow10Tab) := htab
  have e1 : read.data.toList.length = read.size := by simp
  have e2 : ref.data.toList.length = ref.size := by simp
  clear htab
  by_cases hlong : read.size > 300 ∨ ref.size > 600
  · have hE : scE read.data.toList ref.data.toList = 1 := by unfold scE; rw [e1, e2, if_pos hlong]
    have hT : scT read.data.toList ref.data.toList = [] := by unfold scT; rw [hE]; rfl
    have hN : scN read.data.toList ref.data.toList = 0 := by unfold scN; rw [hE]; rfl
    rw [hE, hT, hN]
    clear hE hT hN e1 e2
    go_enter Tryz.func62, Tryz.ntmps62
    by_cases hr : read.size > 300
    · have hrI : (300 : Int) < read.size := by omega
      go_wp2_with fail
      go_ret3
      exact ⟨rfl, Below.refl _ _⟩
    · have hrI : ¬ (300 : Int) < read.size := by omega
      have hfI : (600 : Int) < ref.size := by omega
      go_wp2_with fail
      go_ret3
      exact ⟨rfl, Below.refl _ _⟩
  · have hrI : ¬ (300 : Int) < read.size := by omega
    have hfI : ¬ (600 : Int) < ref.size := by omega
    have HE : Hid (good read → good ref → scE read.data.toList ref.data.toList = 0) := by
      intro h1 h2
      unfold scE
      rw [e1, e2, if_neg hlong, if_pos ⟨(good_iff read).1 h1, (good_iff ref).1 h2⟩]
    have HBAD : Hid (∀ (h : ¬ (good read ∧ good ref)), scE read.data.toList ref.data.toList = 2 ∧ scT read.data.toList ref.data.toList = [] ∧ scN read.data.toList ref.data.toList = 0) := by
      intro h
      have h2 : scE read.data.toList ref.data.toList = 2 := by
        unfold scE
        rw [e1, e2, if_neg hlong, if_neg (fun hh => h ⟨(good_iff read).2 hh.1, (good_iff ref).2 hh.2⟩)]
      exact ⟨h2, by unfold scT; rw [h2]; rfl, by unfold scN; rw [h2]; rfl⟩
    have hg := fun W => ngrid_any ref.size (by omega) W
    have ec := enterCol
    have er := enterRow
    go_enter Tryz.func62, Tryz.ntmps62
    go_wp2_with fail
    refine (hg _).mono ?_
    rintro e w1 ⟨B, vw, v0, rfl, hB, b1, b2, b3, b4⟩
    have HB4 : Hid (Below w.heap.size w w1) := b4
    have hI0 : ClI (nums ref.data.toList) w B vw 0 w1 := ⟨.slice none 0 0, v0, b1, OwnR.nil _ _ _ _, b2, b3, b4⟩
    have HI0 : Hid (ClI (nums ref.data.toList) w B vw 0 w1) := hI0
    clear b1 b2 b3 b4 hI0 hg
    go_wp2_with fail
    refine (eachBase_any 96 enterCol (.pointer (some ⟨B, 0, none⟩)) ref w1 (by omega) (ClI (nums ref.data.toList) w B vw) (fun k hk wx hn h => ClI.step ref w B vw hB (by omega) k hk wx hn h) HI0.out).mono ?_
    rintro e w2 ⟨k, hk, hI, hgd, hend⟩
    rcases hend with ⟨rfl, rfl⟩ | ⟨hk', hneg, rfl⟩
    · have hgood : good ref := fun j hj => hgd j hj hj
      have HG1 : Hid (good ref) := hgood
      obtain ⟨vf, v0', c1, c2, c3, c4, c5⟩ := hI
      have htk : (nums ref.data.toList).take ref.size = nums ref.data.toList := List.take_of_length_le (by rw [nums_length]; simp)
      rw [htk] at c2
      have hnl : (nums ref.data.toList).length = ref.size := by rw [nums_length]; simp
      have HI1 : Hid (RwI (nums read.data.toList) (nums ref.data.toList) w B vf 0 w2) := by
        refine ⟨.slice none 0 0, vw, [v0'], c1, OwnR.nil _ _ _ _, by rw [hnl]; exact c2, c3, fun i hi => ?_, fun g hg => by simp [Value.ownBlock] at hg, c5⟩
        have hi0 : i = 0 := by omega
        subst hi0
        exact ⟨v0', rfl, by rw [hnl]; exact c4⟩
      clear hgd hgood c1 c2 c3 c4 c5 htk HI0
      go_wp2_with fail
      refine (eachBase_any 97 enterRow (.pointer (some ⟨B, 0, none⟩)) read w2 (by omega) (RwI (nums read.data.toList) (nums ref.data.toList) w B vf) (fun k hk wx hn h => RwI.step read (nums ref.data.toList) w B vf hB (by omega) (by rw [hnl]; omega) k hk wx hn h) HI1.out).mono ?_
      rintro e w3 ⟨k, hk, hI, hgd, hend⟩
      rcases hend with ⟨rfl, rfl⟩ | ⟨hk', hneg, rfl⟩
      · have hgood : good read := fun j hj => hgd j hj hj
        have hE0 : scE read.data.toList ref.data.toList = 0 := HE.out hgood HG1.out
        obtain ⟨vr, vw3, VS, d1, d2, d3, d4, d5, d6, d7⟩ := hI
        have hrl : (nums read.data.toList).length = read.size := by rw [nums_length]; simp
        have htk : (nums read.data.toList).take read.size = nums read.data.toList := List.take_of_length_le (by rw [nums_length]; simp)
        rw [htk] at d2
        rw [hnl] at d3 d5
        have HS := scr_any (nums read.data.toList) (nums ref.data.toList) read.size ref.size w.heap.size B hrl hnl (by omega) (by omega) vr vf vw3 VS w3 d1 d2 d3 d4 d5
        have hpe : path 1048576 (uN (nums read.data.toList) (nums ref.data.toList)) (read.size + ref.size) read.size ref.size 0 = pth (nums read.data.toList) (nums ref.data.toList) := by unfold pth; rw [hrl, hnl]
        rw [hpe] at HS
        have hT0 : scT read.data.toList ref.data.toList = rtxt (rl (pth (nums read.data.toList) (nums ref.data.toList)).reverse (pth (nums read.data.toList) (nums ref.data.toList)).length).2 := by unfold scT; rw [if_pos hE0]
        have hN0 : scN read.data.toList ref.data.toList = cntB (sN (nums read.data.toList) (nums ref.data.toList)) (pth (nums read.data.toList) (nums ref.data.toList)) read.size ref.size := by unfold scN; rw [if_pos hE0, hrl, hnl]
        have hpl : (pth (nums read.data.toList) (nums ref.data.toList)).length ≤ 900 := by
          have := path_len 1048576 (uN (nums read.data.toList) (nums ref.data.toList)) ((nums read.data.toList).length + (nums ref.data.toList).length) (nums read.data.toList).length (nums ref.data.toList).length 0
          unfold pth
          omega
        have hple : ∀ x ∈ (pth (nums read.data.toList) (nums ref.data.toList)).reverse, x ≤ 2 := fun x hx => path_le _ _ _ _ _ _ x (List.mem_reverse.1 hx)
        obtain ⟨pp, hpp⟩ : ∃ pp, pp = pth (nums read.data.toList) (nums ref.data.toList) := ⟨_, rfl⟩
        obtain ⟨cn, hcn⟩ : ∃ cn, cn = cntB (sN (nums read.data.toList) (nums ref.data.toList)) pp read.size ref.size := ⟨_, rfl⟩
        rw [← hpp] at HS hT0 hN0 hpl hple
        rw [← hcn] at HS hN0
        have HE0 : Hid (scE read.data.toList ref.data.toList = 0) := hE0
        have HT0 : Hid (scT read.data.toList ref.data.toList = rtxt (rl pp.reverse pp.length).2) := hT0
        have HN0 : Hid (scN read.data.toList ref.data.toList = cn) := hN0
        have HD7 : Hid (Below w.heap.size w w3) := d7
        have HPL : Hid (pp.length ≤ 900 ∧ ∀ x ∈ pp.reverse, x ≤ 2) := ⟨hpl, hple⟩
        clear hE0 hT0 hN0 hgd hgood d1 d2 d3 d4 d5 d6 d7 hpe hpp hcn hrl hnl htk hpl hple
        go_wp2_with (go_at_call 98; refine HS.mono ?_; rintro e w4 ⟨v4, rfl, o4, b4⟩; have HO4 : Hid (OwnR w4 w3.heap.size 3 1 v4 pp.length (numV pp.reverse)) := o4; have HB5 : Hid (Below w3.heap.size w3 w4) := b4; clear o4 b4)
        have hs3 := HD7.out.size
        have hB04 : Below w.heap.size w w4 := HD7.out.trans (HB5.out.mono hs3)
        have HB04 : Hid (Below w.heap.size w w4) := hB04
        refine (runs_any pp.reverse pp.length (by simp) HPL.out.1 HPL.out.2 w3.heap.size v4 w4 HO4.out (fun W hb => HT.out W (HB04.out.trans (hb.mono HB04.out.size)))).mono ?_
        rintro e w5 ⟨rfl, b5⟩
        have HB05 : Hid (Below w.heap.size w w5) := HB04.out.trans (b5.mono HB04.out.size)
        clear b5 hB04 HS
        go_wp2_with fail
        go_ret3
        refine ⟨?_, HB05.out⟩
        rw [HE0.out, HT0.out, HN0.out]
        rfl
      · have hbad := HBAD.out (fun h => absurd (h.1 k hk') (by omega))
        have HH : Hid (scE read.data.toList ref.data.toList = 2 ∧ scT read.data.toList ref.data.toList = [] ∧ scN read.data.toList ref.data.toList = 0) := hbad
        obtain ⟨vr, vw3, VS, d1, d2, d3, d4, d5, d6, d7⟩ := hI
        have HD7 : Hid (Below w.heap.size w w3) := d7
        clear hbad d1 d2 d3 d4 d5 d6 d7 hgd hneg
        go_wp2_with fail
        go_ret3
        refine ⟨?_, HD7.out⟩
        rw [HH.out.1, HH.out.2.1, HH.out.2.2]
        rfl
    · have hbad := HBAD.out (fun h => absurd (h.2 k hk') (by omega))
      have HH : Hid (scE read.data.toList ref.data.toList = 2 ∧ scT read.data.toList ref.data.toList = [] ∧ scN read.data.toList ref.data.toList = 0) := hbad
      obtain ⟨vf, v0', c1, c2, c3, c4, c5⟩ := hI
      have HD7 : Hid (Below w.heap.size w w2) := c5
      clear hbad c1 c2 c3 c4 c5 hgd hneg
      go_wp2_with fail
      go_ret3
      refine ⟨?_, HD7.out⟩
      rw [HH.out.1, HH.out.2.1, HH.out.2.2]
      rfl
end Go.Proofs.YtilcmkiihefkkabGreatDoor
end
section
set_option linter.unusedVariables false
set_option linter.unusedSimpArgs false
set_option maxRecDepth 100000
namespace Go.Proofs.YtilcmkiihefkkabGreatDoor
open Go.RowKit Go.Shelf
/-- are two bytes the same, and not N? -/
def sB (a b : UInt8) : Bool := decide (a = b ∧ a ≠ 78)
/-- what a pair of bytes costs -/
def uB (a b : UInt8) : Int := if sB a b then 0 else 4
/-- a row of whole numbers -/
def RP (w : World) (b n j : Nat) (f : Nat → Int) : Prop :=
  ∃ cur : Array Value, w.heap[b]? = some (.cells cur 3 (0, 0)) ∧ cur.size = n ∧ ∀ k, k < j → cur[k]? = some (.int .i64 (f k))
theorem RP.any {w : World} {b n j : Nat} {f : Nat → Int} (h : RP w b n j f) (k : Nat) (hk : k < n) : (∃ y, w.cell? ⟨b, k, none⟩ = some y) ∧ w.frozen? ⟨b, k, none⟩ = false := by
  obtain ⟨cur, h1, h2, _⟩ := h
  exact ⟨⟨_, cell_at h1 (Array.getElem?_eq_getElem (by omega))⟩, frozen_of_row _ _ _ _ _ h1⟩
theorem RP.cell {w : World} {b n j : Nat} {f : Nat → Int} (h : RP w b n j f) (k : Nat) (hk : k < j) : w.cell? ⟨b, k, none⟩ = some (.int .i64 (f k)) := by
  obtain ⟨cur, h1, h2, h3⟩ := h
  exact cell_at h1 (h3 k hk)
theorem RP.other {w w' : World} {b n j : Nat} {f : Nat → Int} (h : RP w b n j f) (he : w'.heap[b]? = w.heap[b]?) : RP w' b n j f := by
  obtain ⟨cur, h1, h2⟩ := h
  exact ⟨cur, he.trans h1, h2⟩
theorem RP.lt {w : World} {b n j : Nat} {f : Nat → Int} (h : RP w b n j f) : b < w.heap.size := by
  obtain ⟨cur, h1, _⟩ := h
  exact lt_of_block h1
/-- the same, with its next number -/
def RX (w : World) (b n j : Nat) (f : Nat → Int) (x : Int) : Prop := RP w b n j f ∧ w.cell? ⟨b, j, none⟩ = some (.int .i64 x)
theorem RX.other {w w' : World} {b n j : Nat} {f : Nat → Int} {x : Int} (h : RX w b n j f x) (he : w'.heap[b]? = w.heap[b]?) : RX w' b n j f x :=
  ⟨h.1.other he, (World.cell?_of_block he).trans h.2⟩
theorem RX.next {w : World} {b n j : Nat} {f : Nat → Int} {x : Int} (h : RX w b n j f x) (hx : x = f j) : RP w b n (j + 1) f := by
  obtain ⟨⟨cur, h1, h2, h3⟩, h4⟩ := h
  refine ⟨cur, h1, h2, fun k hk => ?_⟩
  by_cases he : k = j
  · subst he
    rw [cell_of_row w b k cur 3 (0, 0) h1] at h4
    rw [h4, hx]
  · exact h3 k (by omega)
theorem RP.set {w : World} {b n j : Nat} {f : Nat → Int} (h : RP w b n j f) (hj : j < n) (x : Int) : RX (w.setCell ⟨b, j, none⟩ (.int .i64 x)) b n j f x := by
  obtain ⟨cur, h1, h2, h3⟩ := h
  have u := Upd.of_setCell (i := j) (.int .i64 x) h1
  refine ⟨⟨_, u.here, by simpa using h2, fun k hk => ?_⟩, cell_at u.here (Array.getElem?_setIfInBounds_self_of_lt (by omega))⟩
  rw [Array.getElem?_setIfInBounds_ne (by omega)]
  exact h3 k hk
/-- three blocks may have turned, nothing else -/
structure But3 (w w' : World) (p q r : Nat) : Prop where
  os : w'.os = w.os
  tape : w'.tape = w.tape
  output : w'.output = w.output
  size : w'.heap.size = w.heap.size
  other : ∀ b, b ≠ p → b ≠ q → b ≠ r → w'.heap[b]? = w.heap[b]?
theorem But3.refl (w : World) (p q r : Nat) : But3 w w p q r := ⟨rfl, rfl, rfl, rfl, fun _ _ _ _ => rfl⟩
theorem But3.drewN {w w' : World} {p q r : Nat} (h : But3 w w' p q r) (n : Nat) : But3 w (w'.drewN n) p q r := ⟨h.os, h.tape, h.output, h.size, h.other⟩
theorem But3.set {w w' : World} {p q r : Nat} (h : But3 w w' p q r) (b i : Nat) (v : Value) (hb : b = p ∨ b = q ∨ b = r) : But3 w (w'.setCell ⟨b, i, none⟩ v) p q r :=
  ⟨h.os, h.tape, h.output, by simpa using h.size, fun k h1 h2 h3 => (heap_setCell_other w' _ k v (by intro he; have he : k = b := he; subst he; rcases hb with hb | hb | hb <;> contradiction)).trans (h.other k h1 h2 h3)⟩
theorem But3.below {w w' : World} {p q r B : Nat} (h : But3 w w' p q r) (h1 : B ≤ p) (h2 : B ≤ q) (h3 : B ≤ r) : Below B w w' :=
  ⟨h.os, h.tape, h.output, by rw [h.size]; exact Nat.le_refl _, fun k hk => h.other k (by omega) (by omega) (by omega)⟩
end Go.Proofs.YtilcmkiihefkkabGreatDoor
end
section
set_option linter.unusedVariables false
set_option linter.unusedSimpArgs false
set_option maxRecDepth 100000
namespace Go.Proofs.YtilcmkiihefkkabGreatDoor
open Go.RowKit Go.Shelf
/-- what a pair of bases costs, by their places -/
def uR (read ref : ByteArray) (i j : Nat) : Int := uB (read.data.toList.getD i 0) (ref.data.toList.getD j 0)
theorem uR_bd (read ref : ByteArray) : ∀ i j, 0 ≤ uR read ref i j ∧ uR read ref i j ≤ 4 := fun i j => by
  unfold uR uB
  split <;> omega
def rowsV (b : Nat → Nat) (i m : Nat) : List Value := (List.range i).map fun t => .slice (some ⟨b t, 0, none⟩) (m + 1) (m + 1)
theorem rowsV_get (b : Nat → Nat) (i m t : Nat) (h : t < i) : (rowsV b i m)[t]? = some (.slice (some ⟨b t, 0, none⟩) (m + 1) (m + 1)) := by
  simp [rowsV, h]
theorem RP.app {w w' : World} {b n j : Nat} {f : Nat → Int} (h : RP w b n j f) {base k : Nat} {v : Value} {xs : List Value} {g' : Nat} (ho : OwnR w base 186 1 v k xs) (hf : AppFr w w' v g') : RP w' b n j f := by
  obtain ⟨cur, h1, h2⟩ := h
  exact ⟨cur, (hf.other b (lt_of_block h1) (ho.tag (by decide) h1)).trans h1, h2⟩
theorem RP.alloc {w : World} {b n j : Nat} {f : Nat → Int} (h : RP w b n j f) (ob : Obj) : RP (w.alloc ob) b n j f := h.other (Below.heap_alloc _ _ _ h.lt)
theorem RP.setOther {w : World} {b n j : Nat} {f : Nat → Int} (h : RP w b n j f) {G i : Nat} {cs : Array Value} (hG : w.heap[G]? = some (.cells cs 0 (0, 0))) (v : Value) : RP (w.setCell ⟨G, i, none⟩ v) b n j f := by
  refine h.other (heap_setCell_other w _ b v ?_)
  intro he
  have he : b = G := he
  subst he
  obtain ⟨cur, h1, _⟩ := h
  rw [h1] at hG
  simp at hG
/-- the three tables -/
structure Tb (read ref : ByteArray) (base : Nat) (wx : World) (G iM iI iD : Nat) (vM vI vD : Value) (bM bI bD : Nat → Nat) : Prop where
  hG : wx.heap[G]? = some (.cells #[.string read, .string ref, vM, vI, vD] 0 (0, 0))
  oM : OwnR wx base 186 1 vM iM (rowsV bM iM ref.size)
  oI : OwnR wx base 186 1 vI iI (rowsV bI iI ref.size)
  oD : OwnR wx base 186 1 vD iD (rowsV bD iD ref.size)
  dMI : ∀ g, vM.ownBlock = some g → vI.ownBlock ≠ some g
  dMD : ∀ g, vM.ownBlock = some g → vD.ownBlock ≠ some g
  dID : ∀ g, vI.ownBlock = some g → vD.ownBlock ≠ some g
end Go.Proofs.YtilcmkiihefkkabGreatDoor
end
section
set_option linter.unusedVariables false
set_option linter.unusedSimpArgs false
set_option maxRecDepth 100000
namespace Go.Proofs.YtilcmkiihefkkabGreatDoor
open Go.RowKit Go.Shelf
/-- the tables' first i rows are right -/
def TbI (read ref : ByteArray) (w wx : World) (G i : Nat) : Prop :=
  ∃ vM vI vD bM bI bD, Tb read ref w.heap.size wx G i i i vM vI vD bM bI bD ∧ w.heap.size ≤ G ∧ Below w.heap.size w wx ∧
    (∀ t, t < i → RP wx (bM t) (ref.size + 1) (ref.size + 1) (fun j => (cel 1000000000 (uR read ref) t j).m) ∧ RP wx (bI t) (ref.size + 1) (ref.size + 1) (fun j => (cel 1000000000 (uR read ref) t j).i) ∧ RP wx (bD t) (ref.size + 1) (ref.size + 1) (fun j => (cel 1000000000 (uR read ref) t j).d))
/-- what the tables hold, where row i is being made -/
def GF (read ref : ByteArray) (W : World) (G i : Nat) (vM vI vD : Value) (gM oM gI oI gD oD : Nat) (bM bI bD : Nat → Nat) : Prop :=
  W.cell? ⟨G, 2, none⟩ = some vM ∧ W.cell? ⟨G, 3, none⟩ = some vI ∧ W.cell? ⟨G, 4, none⟩ = some vD ∧
  (∀ t, t ≤ i → W.cell? ⟨gM, oM + t, none⟩ = some (.slice (some ⟨bM t, 0, none⟩) (ref.size + 1) (ref.size + 1)) ∧ W.cell? ⟨gI, oI + t, none⟩ = some (.slice (some ⟨bI t, 0, none⟩) (ref.size + 1) (ref.size + 1)) ∧ W.cell? ⟨gD, oD + t, none⟩ = some (.slice (some ⟨bD t, 0, none⟩) (ref.size + 1) (ref.size + 1))) ∧
  (∀ t k, t < i → k ≤ ref.size → W.cell? ⟨bM t, k, none⟩ = some (.int .i64 (cel 1000000000 (uR read ref) t k).m) ∧ W.cell? ⟨bI t, k, none⟩ = some (.int .i64 (cel 1000000000 (uR read ref) t k).i) ∧ W.cell? ⟨bD t, k, none⟩ = some (.int .i64 (cel 1000000000 (uR read ref) t k).d))
theorem Tb.gf {read ref : ByteArray} {base : Nat} {w4 W : World} {G i : Nat} {gM oM cM gI oI cI gD oD cD p q r : Nat} {bM bI bD : Nat → Nat}
    (h : Tb read ref base w4 G (i + 1) (i + 1) (i + 1) (.slice (some ⟨gM, oM, none⟩) (i + 1) cM) (.slice (some ⟨gI, oI, none⟩) (i + 1) cI) (.slice (some ⟨gD, oD, none⟩) (i + 1) cD) bM bI bD)
    (hp : ∀ f, RP w4 p (ref.size + 1) 0 f) (hq : ∀ f, RP w4 q (ref.size + 1) 0 f) (hr : ∀ f, RP w4 r (ref.size + 1) 0 f)
    (hrows : ∀ t, t < i → (RP w4 (bM t) (ref.size + 1) (ref.size + 1) (fun j => (cel 1000000000 (uR read ref) t j).m) ∧ RP w4 (bI t) (ref.size + 1) (ref.size + 1) (fun j => (cel 1000000000 (uR read ref) t j).i) ∧ RP w4 (bD t) (ref.size + 1) (ref.size + 1) (fun j => (cel 1000000000 (uR read ref) t j).d)) ∧
      (bM t ≠ p ∧ bM t ≠ q ∧ bM t ≠ r) ∧ (bI t ≠ p ∧ bI t ≠ q ∧ bI t ≠ r) ∧ (bD t ≠ p ∧ bD t ≠ q ∧ bD t ≠ r)) (hb : But3 w4 W p q r) :
    GF read ref W G i (.slice (some ⟨gM, oM, none⟩) (i + 1) cM) (.slice (some ⟨gI, oI, none⟩) (i + 1) cI) (.slice (some ⟨gD, oD, none⟩) (i + 1) cD) gM oM gI oI gD oD bM bI bD := by
  have ne : ∀ {b : Nat} {cs : Array Value} {t : TypeId}, t ≠ 3 → w4.heap[b]? = some (.cells cs t (0, 0)) → b ≠ p ∧ b ≠ q ∧ b ≠ r := by
    intro b cs t ht hbk
    have aux : ∀ c, (∀ f, RP w4 c (ref.size + 1) 0 f) → b ≠ c := by
      intro c hc he
      subst he
      obtain ⟨cur, h1, _⟩ := hc (fun _ => 0)
      rw [h1] at hbk
      simp at hbk
      exact ht hbk.2.symm
    exact ⟨aux p hp, aux q hq, aux r hr⟩
  have blk : ∀ {g o n c : Nat} {xs : List Value}, OwnR w4 base 186 1 (.slice (some ⟨g, o, none⟩) n c) n xs → g ≠ p ∧ g ≠ q ∧ g ≠ r := by
    intro g o n c xs ho
    rcases ho.2 with ⟨h1, _⟩ | ⟨g', o', cap', cur, he, h1, h2, _⟩
    · simp at h1
    · simp only [Value.slice.injEq, Option.some.injEq, Addr.mk.injEq, and_true, true_and] at he
      obtain ⟨⟨rfl, rfl⟩, rfl⟩ := he
      exact ne (by decide) h2
  have cl : ∀ (b k : Nat), (b ≠ p ∧ b ≠ q ∧ b ≠ r) → W.cell? ⟨b, k, none⟩ = w4.cell? ⟨b, k, none⟩ := fun b k h => World.cell?_of_block (hb.other b h.1 h.2.1 h.2.2)
  have nG := ne (by decide) h.hG
  refine ⟨(cl G 2 nG).trans (cell_at h.hG rfl), (cl G 3 nG).trans (cell_at h.hG rfl), (cl G 4 nG).trans (cell_at h.hG rfl), fun t ht => ⟨?_, ?_, ?_⟩, fun t k ht hk => ⟨?_, ?_, ?_⟩⟩
  · exact (cl gM _ (blk h.oM)).trans (h.oM.cell (rowsV_get bM (i + 1) ref.size t (by omega)))
  · exact (cl gI _ (blk h.oI)).trans (h.oI.cell (rowsV_get bI (i + 1) ref.size t (by omega)))
  · exact (cl gD _ (blk h.oD)).trans (h.oD.cell (rowsV_get bD (i + 1) ref.size t (by omega)))
  · exact (cl _ _ (hrows t ht).2.1).trans ((hrows t ht).1.1.cell k (by omega))
  · exact (cl _ _ (hrows t ht).2.2.1).trans ((hrows t ht).1.2.1.cell k (by omega))
  · exact (cl _ _ (hrows t ht).2.2.2).trans ((hrows t ht).1.2.2.cell k (by omega))
end Go.Proofs.YtilcmkiihefkkabGreatDoor
end
section
set_option linter.unusedVariables false
set_option linter.unusedSimpArgs false
set_option maxRecDepth 100000
namespace Go.Proofs.YtilcmkiihefkkabGreatDoor
open Go.RowKit Go.Shelf
theorem conv_one (W : World) (b : Nat) (c : UInt8) (h : W.cell? ⟨b, 0, none⟩ = some (.int .u8 (c.toNat : Int))) :
    (convert 33 9 (.slice (some ⟨b, 0, none⟩) 1 1)).run Tryz.prog W = .ok (.string ⟨#[c]⟩) W := by
  have := run_convert_bytes_back (P := Tryz.prog) W 33 9 5 ⟨b, 0, none⟩ 1 [c] Tryz.underlying33 Tryz.underlying5 Tryz.underlying9 (by
    intro i hi
    have hi0 : i = 0 := by simpa using hi
    subst hi0
    rw [Addr.add_lit, Nat.zero_add]
    exact h)
  simpa using this
theorem str_append (a b : List UInt8) : (⟨a.toArray⟩ : ByteArray) ++ ⟨b.toArray⟩ = ⟨(a ++ b).toArray⟩ := by
  apply ByteArray.ext
  rw [ByteArray.data_append]
  simp
section
variable {P : Program} {ops : Array Oper} {Q : Exit → Act → World → Prop} {md : Region.Mode} {S : World → Prop} {L : Nat}
/-- two may come up -/
theorem wpAnyX_two {i j : Nat} {oi oj : Oper} {fuel : Nat} {listed : Array Bool} {a : Act} {w : World} (hr : Region.ready md ops listed = [i, j]) (hi' : ops.toList[i]? = some oi) (hj' : ops.toList[j]? = some oj) (hiL : (i == L) = false) (hjL : (j == L) = false)
    (h1 : ∀ K : Act → World → Prop, Shut (∀ a' w', S w' → wpAnyX P md ops Q S L fuel (listed.setIfInBounds i true) a' w' → K a' w') → if Region.wanted oi (yielded ops a.tmps) = true then Oper.wp P oi a w K Q else K (a.put oi.dst undef) w)
    (h2 : ∀ K : Act → World → Prop, Shut (∀ a' w', S w' → wpAnyX P md ops Q S L fuel (listed.setIfInBounds j true) a' w' → K a' w') → if Region.wanted oj (yielded ops a.tmps) = true then Oper.wp P oj a w K Q else K (a.put oj.dst undef) w) : wpAnyX P md ops Q S L (fuel + 1) listed a w := by
  have hi : ops[i]? = some oi := by simpa using hi'
  have hj : ops[j]? = some oj := by simpa using hj'
  have hne : i ≠ L := by simpa using hiL
  have hne2 : j ≠ L := by simpa using hjL
  refine ⟨fun h0 => (by rw [hr] at h0; cases h0), fun k hk => ?_⟩
  rw [hr] at hk
  rcases (show k = i ∨ k = j by simpa using hk) with rfl | rfl
  · have := h1 (fun a' w' => (k ≠ L → S w') ∧ wpAnyX P md ops Q S L fuel (listed.setIfInBounds k true) a' w') (fun a' w' h1 h2 => ⟨fun _ => h1, h2⟩)
    unfold wpOp
    simp only [hi]
    split
    · rename_i hw
      rw [if_pos hw] at this
      exact Or.inl this
    · rename_i hw
      rw [if_neg hw] at this
      exact this
  · have := h2 (fun a' w' => (k ≠ L → S w') ∧ wpAnyX P md ops Q S L fuel (listed.setIfInBounds k true) a' w') (fun a' w' h1 h2 => ⟨fun _ => h1, h2⟩)
    unfold wpOp
    simp only [hj]
    split
    · rename_i hw
      rw [if_pos hw] at this
      exact Or.inl this
    · rename_i hw
      rw [if_neg hw] at this
      exact this
end
end Go.Proofs.YtilcmkiihefkkabGreatDoor
end
section
set_option linter.unusedVariables false
set_option linter.unusedSimpArgs false
set_option maxRecDepth 100000
namespace Go.Proofs.YtilcmkiihefkkabGreatDoor
open Go.RowKit Go.Shelf
/-- letters as a text -/
def lets (L : List Nat) : ByteArray := ⟨(L.map ltr).toArray⟩
theorem extract_one (s : ByteArray) (k : Nat) (h : k < s.size) : s.extract k (k + 1) = ⟨#[s[k]]⟩ := by
  apply ByteArray.ext
  rw [ByteArray.data_extract]
  have h' : k < s.data.size := h
  apply Array.ext
  · simp; omega
  · intro i h1 h2
    have hi : i = 0 := by simpa using h2
    subst hi
    simp
    rfl
end Go.Proofs.YtilcmkiihefkkabGreatDoor
end
section
set_option linter.unusedVariables false
set_option linter.unusedSimpArgs false
set_option maxRecDepth 100000
namespace Go.Proofs.YtilcmkiihefkkabGreatDoor
open Go.RowKit Go.Shelf
theorem lets_snoc (L : List Nat) (l : Nat) : lets (L ++ [l]) = lets L ++ ⟨#[ltr l]⟩ := by
  have := str_append (L.map ltr) [ltr l]
  unfold lets
  rw [List.map_append]
  exact this.symm
/-- the letters' walk -/
def LtI (read ref : ByteArray) (w wx : World) (i j l : Nat) (cost : Int) (o : ByteArray) : Prop :=
  ∃ (L : List Nat) (f x : Nat), i ≤ read.size ∧ j ≤ ref.size ∧ i + j ≤ f ∧ L.length + (i + j) ≤ read.size + ref.size ∧ l = nx (cel 1000000000 (uR read ref) i j) x ∧ cost = pv (cel 1000000000 (uR read ref) i j) l ∧ o = lets L ∧
    L ++ path 1000000000 (uR read ref) f i j x = path 1000000000 (uR read ref) (read.size + ref.size) read.size ref.size 0 ∧ Below w.heap.size w wx
theorem LtI.step {read ref : ByteArray} {w wx w' : World} {i j l : Nat} {cost : Int} {o : ByteArray} (hr : read.size ≤ 300) (hf : ref.size ≤ 600) (h : LtI read ref w wx i j l cost o) (hp : 0 < i + j) (hb : Below w.heap.size w w') (i' j' l' : Nat) (cost' : Int) (hi' : i' = if l = 2 then i else i - 1) (hj' : j' = if l = 1 then j else j - 1)
    (hl' : l' = nx (cel 1000000000 (uR read ref) i' j') l) (hc' : cost' = pv (cel 1000000000 (uR read ref) i' j') l') : LtI read ref w w' i' j' l' cost' (o ++ ⟨#[ltr l]⟩) := by
  obtain ⟨L, f, x, h1, h2, h3, h4, h5, h6, h7, h8, h9⟩ := h
  obtain ⟨f', rfl⟩ : ∃ f', f = f' + 1 := ⟨f - 1, by omega⟩
  have hrc := nx_reach 1000000000 (by omega) (cel 1000000000 (uR read ref) i j) i j (by omega) (by omega) (cel_ok 1000000000 (by omega) (uR read ref) (uR_bd read ref) i j (by omega) (by omega)) hp x
  have hle := nx_le (cel 1000000000 (uR read ref) i j) x
  rw [← h5] at hrc hle
  have hii : i' ≤ i := by rw [hi']; split <;> omega
  have hjj : j' ≤ j := by rw [hj']; split <;> omega
  have hdec : i' + j' + 1 ≤ i + j := by
    rcases (show l = 0 ∨ l = 1 ∨ l = 2 by omega) with h0 | h0 | h0
    · have := hrc.1 h0
      rw [h0] at hi' hj'; simp at hi' hj'; omega
    · have := hrc.2.1 h0
      rw [h0] at hi' hj'; simp at hi' hj'; omega
    · have := hrc.2.2 h0
      rw [h0] at hi' hj'; simp at hi' hj'; omega
  refine ⟨L ++ [l], f', l, by omega, by omega, by omega, by simp; omega, hl', hc', by rw [lets_snoc, h7], ?_, hb⟩
  rw [path, if_neg (by omega), ← h5, ← hi', ← hj'] at h8
  rw [List.append_assoc]; exact h8
end Go.Proofs.YtilcmkiihefkkabGreatDoor
end
section
set_option linter.unusedVariables false
set_option linter.unusedSimpArgs false
set_option maxRecDepth 100000
namespace Go.Proofs.YtilcmkiihefkkabGreatDoor
open Go.RowKit Go.Shelf
/-- are two bases the same, by their places -/
def sR (read ref : ByteArray) (i j : Nat) : Bool := sB (read.data.toList.getD i 0) (ref.data.toList.getD j 0)
theorem take_rev_succ (L : List Nat) (k : Nat) (h : k < L.length) : (L.take (k + 1)).reverse = L.getD k 9 :: (L.take k).reverse := by
  rw [List.take_succ_eq_append_getElem h, List.reverse_append]
  simp [h]
end Go.Proofs.YtilcmkiihefkkabGreatDoor
end
section
set_option linter.unusedVariables false
set_option linter.unusedSimpArgs false
set_option maxRecDepth 100000
namespace Go.Proofs.YtilcmkiihefkkabGreatDoor
open Go.RowKit
set_option maxHeartbeats 400000 in
theorem lpick_any (c n : Int) (w : World) (hc : -9223372036854775808 ≤ c ∧ c ≤ 9223372036854775807) (hn : 0 < n) (hn2 : n ≤ 100000) :
    Calls Tryz.prog 5 #[.int .i64 c, .int .i64 n] w fun e w' => ∃ r : Nat, e = .returned (.int .i64 r) ∧ (r : Int) < n ∧ w' = w := by
  have hn0 : (n == 0) = false := by rw [beq_eq_false_iff_ne]; omega
  by_cases h : c < 0
  · have e1 : -((c + 1).tmod n) = (-(c + 1)) % n := by
      rw [← Int.neg_tmod, Int.tmod_eq_emod_of_nonneg (by omega)]
    have h1 := Int.emod_nonneg (-(c + 1)) (show n ≠ 0 by omega)
    have h2 := Int.emod_lt_of_pos (-(c + 1)) hn
    have HE : Hid (-((c + 1).tmod n) = (-(c + 1)) % n) := e1
    have H1 : Hid (0 ≤ (-(c + 1)) % n ∧ (-(c + 1)) % n < n) := ⟨h1, h2⟩
    clear e1 h1 h2
    go_enter Tryz.func5, Tryz.ntmps5
    go_wp2
    go_ret
    refine ⟨((-(c + 1)) % n).toNat, ret_int (HE.out.trans ?_), ?_, rfl⟩ <;> have := H1.out <;> omega
  · have h1 := Int.emod_nonneg c (show n ≠ 0 by omega)
    have h2 := Int.emod_lt_of_pos c hn
    have H1 : Hid (0 ≤ c % n ∧ c % n < n) := ⟨h1, h2⟩
    clear h1 h2
    go_enter Tryz.func5, Tryz.ntmps5
    go_wp2
    go_ret
    refine ⟨(c % n).toNat, ret_int ?_, ?_, rfl⟩ <;> have := H1.out <;> omega
/-- a letter of any byte -/
def cleanB (c : UInt8) : UInt8 :=
  if c = 65 ∨ c = 67 ∨ c = 71 ∨ c = 84 ∨ c = 78 then c else ([65, 67, 71, 84, 78] : List UInt8).getD (c.toNat % 5) 0
theorem cleanB_good (c : UInt8) : 0 ≤ numb (cleanB c) := by
  unfold cleanB
  split
  · rename_i h
    rcases numb_cases c with h' | h' | h' | h' | h' | h' <;> first | omega | (exfalso; rcases h with h | h | h | h | h <;> simp_all)
  · have : c.toNat % 5 < 5 := Nat.mod_lt _ (by omega)
    rcases (show c.toNat % 5 = 0 ∨ c.toNat % 5 = 1 ∨ c.toNat % 5 = 2 ∨ c.toNat % 5 = 3 ∨ c.toNat % 5 = 4 by omega) with h | h | h | h | h <;> rw [h] <;> decide
/-- bases of any text, so many at most -/
def cleanL (l : List UInt8) (n : Nat) : List UInt8 := (l.take n).map cleanB
theorem cleanL_length (l : List UInt8) (n : Nat) : (cleanL l n).length = min n l.length := by simp [cleanL]
theorem clean_step (s : ByteArray) (k : Nat) (hk : k < s.size) (r x : ByteArray) (hr : r = ⟨(cleanL s.data.toList k).toArray⟩) (hx : x.data.toList = [cleanB s[k]]) : r ++ x = ⟨(cleanL s.data.toList (k + 1)).toArray⟩ := by
  have e1 : cleanL s.data.toList (k + 1) = cleanL s.data.toList k ++ [cleanB s[k]] := by
    unfold cleanL
    rw [List.take_succ_eq_append_getElem (by simpa using hk), List.map_append]
    rfl
  rw [e1, hr]
  apply ByteArray.ext
  apply Array.toList_inj.1
  rw [ByteArray.data_append, Array.toList_append, hx]
theorem ext_one (s : ByteArray) (k : Nat) (hk : k < s.size) : (s.extract k (k + 1)).data.toList = [s[k]] := by
  rw [ByteArray.data_extract]
  apply List.ext_getElem
  · simp
    have : k < s.data.size := hk
    omega
  · intro i h1 h2
    have hi : i = 0 := by simp at h2; omega
    subst hi
    simp
    rfl
theorem letter_one (m : Nat) (h : m < 5) : ((⟨#[65, 67, 71, 84, 78]⟩ : ByteArray).extract m (m + 1)).data.toList = [([65, 67, 71, 84, 78] : List UInt8).getD m 0] := by
  rcases (show m = 0 ∨ m = 1 ∨ m = 2 ∨ m = 3 ∨ m = 4 by omega) with rfl | rfl | rfl | rfl | rfl <;> decide
set_option maxRecDepth 100000 in
set_option maxHeartbeats 4000000 in
theorem clean_any (s : ByteArray) (M : Nat) (hM : M ≤ 1000) (w : World) (hs : s.size ≤ 140737488351232) :
    Calls Tryz.prog 8 #[.string s, .int .i64 M] w fun e w' => e = .returned (.string ⟨(cleanL s.data.toList M).toArray⟩) ∧ w' = w := by
  go_enter Tryz.func8, Tryz.ntmps8
  go_wp2
  go_loop [5, 6] (fun out i => ∃ (k : Nat) (r : ByteArray), k ≤ s.size ∧ k ≤ M ∧ i = .int .i64 k ∧ out = .string r ∧ r = ⟨(cleanL s.data.toList k).toArray⟩) (fun _ i => M - (RowKit.intOf i).toNat)
  case atStart => exact ⟨0, _, Nat.zero_le _, Nat.zero_le _, rfl, rfl, rfl⟩
  case round =>
    obtain ⟨k, r, hk, hk3, rfl, rfl, hr⟩ := hrel
    have hrs2 : r.size ≤ M := by
      rw [hr]
      show (cleanL s.data.toList k).toArray.size ≤ M
      rw [List.size_toArray, cleanL_length]
      omega
    have HR : Hid (r = ⟨(cleanL s.data.toList k).toArray⟩) := hr
    clear hr
    by_cases hlt : k < s.size
    · by_cases h2 : (k : Int) < M
      · by_cases hin : s[k] = 65 ∨ s[k] = 67 ∨ s[k] = 71 ∨ s[k] = 84 ∨ s[k] = 78
        · have HI : Hid (cleanB s[k] = s[k]) := by show _ = _; unfold cleanB; rw [if_pos hin]
          rcases hin with h | h | h | h | h
          · have q1 : ((s[k].toNat : Int) == 65) = true := by rw [h]; rfl
            clear h
            go_wp2
            go_round
            case rel => exact ⟨k + 1, _, by omega, by omega, by go_num, rfl, clean_step s k hlt r _ HR.out (by rw [HI.out]; exact ext_one s k hlt)⟩
            case measure => simp [RowKit.intOf]; omega
          · have q1 : ((s[k].toNat : Int) == 65) = false := by rw [h]; rfl
            have q2 : ((s[k].toNat : Int) == 67) = true := by rw [h]; rfl
            clear h
            go_wp2
            go_round
            case rel => exact ⟨k + 1, _, by omega, by omega, by go_num, rfl, clean_step s k hlt r _ HR.out (by rw [HI.out]; exact ext_one s k hlt)⟩
            case measure => simp [RowKit.intOf]; omega
          · have q1 : ((s[k].toNat : Int) == 65) = false := by rw [h]; rfl
            have q2 : ((s[k].toNat : Int) == 67) = false := by rw [h]; rfl
            have q3 : ((s[k].toNat : Int) == 71) = true := by rw [h]; rfl
            clear h
            go_wp2
            go_round
            case rel => exact ⟨k + 1, _, by omega, by omega, by go_num, rfl, clean_step s k hlt r _ HR.out (by rw [HI.out]; exact ext_one s k hlt)⟩
            case measure => simp [RowKit.intOf]; omega
          · have q1 : ((s[k].toNat : Int) == 65) = false := by rw [h]; rfl
            have q2 : ((s[k].toNat : Int) == 67) = false := by rw [h]; rfl
            have q3 : ((s[k].toNat : Int) == 71) = false := by rw [h]; rfl
            have q4 : ((s[k].toNat : Int) == 84) = true := by rw [h]; rfl
            clear h
            go_wp2
            go_round
            case rel => exact ⟨k + 1, _, by omega, by omega, by go_num, rfl, clean_step s k hlt r _ HR.out (by rw [HI.out]; exact ext_one s k hlt)⟩
            case measure => simp [RowKit.intOf]; omega
          · have q1 : ((s[k].toNat : Int) == 65) = false := by rw [h]; rfl
            have q2 : ((s[k].toNat : Int) == 67) = false := by rw [h]; rfl
            have q3 : ((s[k].toNat : Int) == 71) = false := by rw [h]; rfl
            have q4 : ((s[k].toNat : Int) == 84) = false := by rw [h]; rfl
            have q5 : ((s[k].toNat : Int) == 78) = true := by rw [h]; rfl
            clear h
            go_wp2
            go_round
            case rel => exact ⟨k + 1, _, by omega, by omega, by go_num, rfl, clean_step s k hlt r _ HR.out (by rw [HI.out]; exact ext_one s k hlt)⟩
            case measure => simp [RowKit.intOf]; omega
        · have q1 : ((s[k].toNat : Int) == 65) = false := by rw [Bool.eq_false_iff]; intro h; exact hin (Or.inl ((eqs s[k] 65 (by omega)).1 h))
          have q2 : ((s[k].toNat : Int) == 67) = false := by rw [Bool.eq_false_iff]; intro h; exact hin (Or.inr (Or.inl ((eqs s[k] 67 (by omega)).1 h)))
          have q3 : ((s[k].toNat : Int) == 71) = false := by rw [Bool.eq_false_iff]; intro h; exact hin (Or.inr (Or.inr (Or.inl ((eqs s[k] 71 (by omega)).1 h))))
          have q4 : ((s[k].toNat : Int) == 84) = false := by rw [Bool.eq_false_iff]; intro h; exact hin (Or.inr (Or.inr (Or.inr (Or.inl ((eqs s[k] 84 (by omega)).1 h)))))
          have q5 : ((s[k].toNat : Int) == 78) = false := by rw [Bool.eq_false_iff]; intro h; exact hin (Or.inr (Or.inr (Or.inr (Or.inr ((eqs s[k] 78 (by omega)).1 h)))))
          have HI : Hid (cleanB s[k] = ([65, 67, 71, 84, 78] : List UInt8).getD (s[k].toNat % 5) 0) := by show _ = _; unfold cleanB; rw [if_neg hin]
          clear hin
          obtain ⟨m, hm⟩ : ∃ m, m = s[k].toNat % 5 := ⟨_, rfl⟩
          have hm5 : m < 5 := by omega
          have hmI : ((s[k].toNat : Int) % 5) = (m : Int) := by omega
          have hsb : (s[k].toNat : Int) < 256 := by have := s[k].toNat_lt; omega
          have hm5' : (m : Int) + 1 ≤ 5 := by omega
          rw [← hm] at HI
          clear hm
          go_wp2
          go_round
          case rel => exact ⟨k + 1, _, by omega, by omega, by go_num, rfl, clean_step s k hlt r _ HR.out (by rw [HI.out]; exact letter_one m hm5)⟩
          case measure => simp [RowKit.intOf]; omega
      · go_wp2
        go_ret
        refine ⟨?_, rfl⟩
        have : k = M := by omega
        subst this
        show Ending.returned (.string r) = _
        rw [HR.out]
    · go_wp2
      go_ret
      refine ⟨?_, rfl⟩
      show Ending.returned (.string r) = _
      rw [HR.out]
      have e : cleanL s.data.toList k = cleanL s.data.toList M := by
        unfold cleanL
        have hl : s.data.toList.length = s.size := Array.length_toList
        rw [List.take_of_length_le (by omega), List.take_of_length_le (by omega)]
      rw [e]
end Go.Proofs.YtilcmkiihefkkabGreatDoor
end
section
set_option linter.unusedVariables false
set_option linter.unusedSimpArgs false
set_option maxRecDepth 100000
namespace Go.Proofs.YtilcmkiihefkkabGreatDoor
open Go.RowKit Go.Shelf
/-- while cost goes over the letters -/
structure St (read ref : ByteArray) (L : List Nat) (k i j : Nat) (c : Int) (s : Nat) : Prop where
  pos : (L.take k).foldl stF (0, 0) = (i, j)
  cost : c = cst (uR read ref) (L.take k).reverse i j
  same : s = cntF (sR read ref) (L.take k) (0, 0)
theorem take_app (L : List Nat) (k : Nat) (h : k < L.length) : L.take (k + 1) = L.take k ++ [L.getD k 9] := by
  rw [List.take_succ_eq_append_getElem h]; simp [h]
theorem St.m {read ref : ByteArray} {L : List Nat} {k i j : Nat} {c : Int} {s : Nat} (h : St read ref L k i j c s) (hk : k < L.length) (hl : L.getD k 9 = 0) :
    St read ref L (k + 1) (i + 1) (j + 1) (c + uR read ref i j) (s + if sR read ref i j = true then 1 else 0) := by
  refine ⟨?_, ?_, ?_⟩
  · rw [take_app L k hk, List.foldl_append, h.pos, hl]; rfl
  · rw [take_rev_succ L k hk, hl, cst_cons, h.cost]
    simp [jn]
    omega
  · rw [take_app L k hk, cntF_app, h.pos, h.same, hl]
    simp
end Go.Proofs.YtilcmkiihefkkabGreatDoor
end
section
set_option linter.unusedVariables false
set_option linter.unusedSimpArgs false
set_option maxRecDepth 100000
namespace Go.Proofs.YtilcmkiihefkkabGreatDoor
open Go.RowKit Go.Shelf
theorem rl_whole (L : List Nat) : (rl L L.length).1 = L.length := by
  cases h : L.length with
  | zero => rfl
  | succ k =>
    show (if k + 1 = L.length ∨ L.getD (k + 1) 9 ≠ L.getD k 9 then (k + 1, (rl L k).2 ++ [(k + 1 - (rl L k).1, L.getD k 9)]) else rl L k).1 = _
    rw [if_pos (Or.inl h.symm)]
end Go.Proofs.YtilcmkiihefkkabGreatDoor
end
section
set_option linter.unusedVariables false
set_option linter.unusedSimpArgs false
set_option maxRecDepth 100000
namespace Go.Proofs.YtilcmkiihefkkabGreatDoor
theorem jn_nonneg (x : Nat) (t : List Nat) : 0 ≤ jn x t := by unfold jn; split <;> omega
theorem cst_nonneg (u : Nat → Nat → Int) (hu : ∀ i j, 0 ≤ u i j) : ∀ (t : List Nat) (i j : Nat), 0 ≤ cst u t i j
  | [], _, _ => by simp [cst]
  | l :: t, i, j => by
    unfold cst
    have h1 := cst_nonneg u hu t (if l = 2 then i else i - 1) (if l = 1 then j else j - 1)
    have h2 := jn_nonneg l t
    have h3 := hu (i - 1) (j - 1)
    split <;> omega
/-- letters that cost nothing are pairs alike -/
theorem cst_zero (u : Nat → Nat → Int) (s : Nat → Nat → Bool) (hu : ∀ i j, 0 ≤ u i j) : ∀ (t : List Nat) (i j : Nat), ends t i j → (∀ a b, a < i → b < j → u a b = 0 → s a b = true) → cst u t i j ≤ 0 → cntB s t i j = t.length ∧ t.length = i ∧ i = j
  | [], i, j, h, _, _ => ⟨rfl, h.1.symm, by rw [h.1, h.2]⟩
  | l :: t, i, j, h, hs, hc => by
    obtain ⟨h1, h2, h3, h4⟩ := h
    unfold cst at hc
    have e1 := cst_nonneg u hu t (if l = 2 then i else i - 1) (if l = 1 then j else j - 1)
    have e2 := jn_nonneg l t
    have e3 := hu (i - 1) (j - 1)
    have hl : l = 0 := by
      rcases Nat.eq_zero_or_pos l with h | h
      · exact h
      · exfalso
        rw [if_neg (by omega)] at hc
        omega
    subst hl
    have i0 := h2 (by decide)
    have j0 := h3 (by decide)
    simp only [if_true, show (0 : Nat) ≠ 2 by decide, show (0 : Nat) ≠ 1 by decide, if_false] at hc e1 h4
    obtain ⟨r1, r2, r3⟩ := cst_zero u s hu t (i - 1) (j - 1) h4 (fun a b ha hb => hs a b (by omega) (by omega)) (by omega)
    have hu0 : u (i - 1) (j - 1) = 0 := by omega
    have hs0 := hs (i - 1) (j - 1) (by omega) (by omega) hu0
    refine ⟨?_, by simp only [List.length_cons]; omega, by omega⟩
    unfold cntB
    simp only [hs0, and_self, if_true, show (0 : Nat) ≠ 2 by decide, show (0 : Nat) ≠ 1 by decide, if_false, r1, List.length_cons]
    omega
theorem ends_rep : ∀ n, ends (List.replicate n 0) n n
  | 0 => ⟨rfl, rfl⟩
  | n + 1 => by
    rw [List.replicate_succ]
    exact ⟨by omega, fun _ => by omega, fun _ => by omega, by simpa using ends_rep n⟩
theorem cst_rep (u : Nat → Nat → Int) : ∀ n, (∀ i, i < n → u i i = 0) → cst u (List.replicate n 0) n n = 0
  | 0, _ => rfl
  | n + 1, h => by
    rw [List.replicate_succ]
    unfold cst
    have := cst_rep u n (fun i hi => h i (by omega))
    simp [h n (by omega), this]
/-- THE SCRIPT OF A TEXT WITHOUT N AND ITSELF: all pairs alike -/
theorem pth_self (R : List Nat) (hR : ∀ m ∈ R, m < 4) (hl : R.length ≤ 300) : (pth R R).length = R.length ∧ cntB (sN R R) (pth R R) R.length R.length = R.length := by
  have hu := uN_bd R R
  have hm : ∀ i, i < R.length → R.getD i 9 < 4 := fun i hi => by
    rw [List.getD_eq_getElem?_getD, List.getElem?_eq_getElem hi]
    exact hR _ (List.getElem_mem _)
  have hz : ∀ i, i < R.length → uN R R i i = 0 := fun i hi => by
    have := hm i hi
    unfold uN prC
    rw [if_pos ⟨rfl, by omega⟩]
  have he := path_ends 1048576 (by omega) (uN R R) hu (R.length + R.length) R.length R.length 0 hl (by omega) (Nat.le_refl _)
  have hc := path_cost 1048576 (by omega) (uN R R) hu (R.length + R.length) R.length R.length 0 hl (by omega) (Nat.le_refl _) (by omega)
  have hg := cst_ge 1048576 (by omega) (uN R R) (List.replicate R.length 0) R.length R.length 0 (by omega) (ends_rep _)
  rw [cst_rep _ _ hz] at hg
  have j0 : ∀ t, jn 0 t = 0 := fun t => by simp [jn]
  rw [j0] at hc hg
  have hs : ∀ a b, a < R.length → b < R.length → uN R R a b = 0 → sN R R a b = true := by
    intro a b ha hb h
    unfold uN prC at h
    unfold sN
    split at h
    · rename_i h'; simpa using h'
    · omega
  have r := cst_zero (uN R R) (sN R R) (fun i j => (hu i j).1) _ _ _ he hs (by omega)
  exact ⟨r.2.1, by have := r.1; have := r.2.1; unfold pth; omega⟩
theorem sc_self (a : List UInt8) (ha : ∀ m ∈ nums a, m < 4) (hg : ∀ c ∈ a, 0 ≤ numb c) (hl : a.length ≤ 300) : scE a a = 0 ∧ scN a a = a.length ∧ (pth (nums a) (nums a)).length = a.length := by
  have he : scE a a = 0 := by
    unfold scE
    rw [if_neg (by omega), if_pos ⟨hg, hg⟩]
  have hn : (nums a).length = a.length := by simp [nums]
  have h := pth_self (nums a) ha (by omega)
  refine ⟨he, ?_, by omega⟩
  unfold scN
  rw [if_pos he]
  omega
end Go.Proofs.YtilcmkiihefkkabGreatDoor
end
