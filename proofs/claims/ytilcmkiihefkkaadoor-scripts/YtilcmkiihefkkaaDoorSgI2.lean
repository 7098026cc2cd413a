import Derived.Test.YtilcmkiihefkkaaDoorSgH
set_option linter.unusedVariables false
set_option linter.unusedSimpArgs false
set_option maxRecDepth 1000000
namespace Go.Proofs.YtilcmkiihefkkaaDoor
open Go.RowKit Go.Shelf

set_option maxHeartbeats 16000000 in
theorem lt_case2 (read ref : ByteArray) (hn : read.size ≤ 300) (hm : ref.size ≤ 600) (w wr : World) (G gM oM cM gI oI cI gD oD cD : Nat) (bM bI bD : Nat → Nat) (hgl : ∀ W, Below w.heap.size w W → GL read ref W G (.slice (some ⟨gM, oM, none⟩) (read.size + 1) cM) (.slice (some ⟨gI, oI, none⟩) (read.size + 1) cI) (.slice (some ⟨gD, oD, none⟩) (read.size + 1) cD) gM oM gI oI gD oD bM bI bD)
    (i j : Nat) (c : Int) (o : ByteArray) (hI : LtI read ref w wr i j 2 c o) (hp : 0 < i + j) (u8 u9 u10 u11 u12 u13 u14 u15 u16 u17 u18 u19 u20 u21 u22 u23 u24 u25 u26 u27 u28 u29 u30 u31 u32 u33 u34 u35 u36 u37 u38 u39 u40 u41 u42 u43 u44 u45 u46 u47 u48 u49 u50 u51 u52 u53 u54 u55 u56 u57 u58 u59 u60 u61 u62 u63 u64 u65 u66 u67 u68 u69 u70 u71 u72 u73 u74 u75 u76 u77 u78 u79 u80 u81 u82 u83 u84 u85 u86 u87 u88 u89 u90 u91 u92 u93 u94 u95 u96 u97 u98 u99 u100 u101 u102 u103 u104 u105 u106 u107 u108 u109 u110 u111 u112 u113 u114 u115 u116 u117 u118 u119 u120 u121 u122 u123 u124 u125 u126 u127 u128 u129 u130 u131 u132 u133 u134 u135 u136 u137 u138 u139 u140 u141 u142 u143 u144 u145 u146 u147 u148 u149 u150 u151 u152 u153 u154 u155 u156 u157 u158 u159 u160 u161 u162 u163 u164 u165 u166 u167 u168 u169 u170 u171 u172 u173 u174 u175 u176 u177 u178 u179 u180 u181 u182 u183 u184 u185 u186 u187 u188 u189 u190 u191 u192 u193 u194 u195 u196 u197 u198 u199 u200 u201 u202 u203 u204 u205 : Value) (Q0 : Exit → Act → World → Prop) (hQ0 : ∀ (c : List PanicEntry) (a : Act) (d : Option Tmp) (v : Value) (w : World), Q0 (.panic c) (a.put d v) w → Q0 (.panic c) a w) (B : Code) (hB : Tryd.f29.body.bind firstLoop = some B) :
    Code.wp Tryd.prog B (Exit.then (fun a' w' => LI read ref w G a' w' ∧ Lmu a' w' < Lmu ⟨#[.pointer (some ⟨G, 0, none⟩), undef, .string ⟨#[]⟩, .int .i64 i, .int .i64 j, .int .i64 c, .string ⟨#[ltr 2]⟩, .string o, u8, u9, u10, u11, u12, u13, u14, u15, u16, u17, u18, u19, u20, u21, u22, u23, u24, u25, u26, u27, u28, u29, u30, u31, u32, u33, u34, u35, u36, u37, u38, u39, u40, u41, u42, u43, u44, u45, u46, u47, u48, u49, u50, u51, u52, u53, u54, u55, u56, u57, u58, u59, u60, u61, u62, u63, u64, u65, u66, u67, u68, u69, u70, u71, u72, u73, u74, u75, u76, u77, u78, u79, u80, u81, u82, u83, u84, u85, u86, u87, u88, u89, u90, u91, u92, u93, u94, u95, u96, u97, u98, u99, u100, u101, u102, u103, u104, u105, u106, u107, u108, u109, u110, u111, u112, u113, u114, u115, u116, u117, u118, u119, u120, u121, u122, u123, u124, u125, u126, u127, u128, u129, u130, u131, u132, u133, u134, u135, u136, u137, u138, u139, u140, u141, u142, u143, u144, u145, u146, u147, u148, u149, u150, u151, u152, u153, u154, u155, u156, u157, u158, u159, u160, u161, u162, u163, u164, u165, u166, u167, u168, u169, u170, u171, u172, u173, u174, u175, u176, u177, u178, u179, u180, u181, u182, u183, u184, u185, u186, u187, u188, u189, u190, u191, u192, u193, u194, u195, u196, u197, u198, u199, u200, u201, u202, u203, u204, u205], []⟩ wr) Q0) ⟨#[.pointer (some ⟨G, 0, none⟩), undef, .string ⟨#[]⟩, .int .i64 i, .int .i64 j, .int .i64 c, .string ⟨#[ltr 2]⟩, .string o, u8, u9, u10, u11, u12, u13, u14, u15, u16, u17, u18, u19, u20, u21, u22, u23, u24, u25, u26, u27, u28, u29, u30, u31, u32, u33, u34, u35, u36, u37, u38, u39, u40, u41, u42, u43, u44, u45, u46, u47, u48, u49, u50, u51, u52, u53, u54, u55, u56, u57, u58, u59, u60, u61, u62, u63, u64, u65, u66, u67, u68, u69, u70, u71, u72, u73, u74, u75, u76, u77, u78, u79, u80, u81, u82, u83, u84, u85, u86, u87, u88, u89, u90, u91, u92, u93, u94, u95, u96, u97, u98, u99, u100, u101, u102, u103, u104, u105, u106, u107, u108, u109, u110, u111, u112, u113, u114, u115, u116, u117, u118, u119, u120, u121, u122, u123, u124, u125, u126, u127, u128, u129, u130, u131, u132, u133, u134, u135, u136, u137, u138, u139, u140, u141, u142, u143, u144, u145, u146, u147, u148, u149, u150, u151, u152, u153, u154, u155, u156, u157, u158, u159, u160, u161, u162, u163, u164, u165, u166, u167, u168, u169, u170, u171, u172, u173, u174, u175, u176, u177, u178, u179, u180, u181, u182, u183, u184, u185, u186, u187, u188, u189, u190, u191, u192, u193, u194, u195, u196, u197, u198, u199, u200, u201, u202, u203, u204, u205], []⟩ wr := by
  have hB2 := hB
  conv at hB2 => lhs; whnf
  injection hB2 with hB2
  subst hB2
  clear hB
  have HI : Hid (LtI read ref w wr i j 2 c o) := hI
  have cU := fun x y W => unlike_any x y W
  have HGL : Hid (∀ W, Below w.heap.size w W → GL read ref W G (.slice (some ⟨gM, oM, none⟩) (read.size + 1) cM) (.slice (some ⟨gI, oI, none⟩) (read.size + 1) cI) (.slice (some ⟨gD, oD, none⟩) (read.size + 1) cD) gM oM gI oI gD oD bM bI bD) := hgl
  clear hgl
  obtain ⟨L, f, x, h1, h2, h3, h4, h5, h6, h7, h8, h9⟩ := hI
  have hosz : o.size ≤ 900 := by rw [h7, lets_size]; omega
  have hoc : ¬ 9223372036854775807 < o.size + 1 := by omega
  have hoI : ¬ (9223372036854775807 : Int) < (o.size : Int) + 1 := by omega
  have hol : o.size + 1 ≤ 9223372036854775807 := by omega
  have hij : IntKind.i64.wrap ((i : Int) + (j : Int)) = (i : Int) + j := by rw [IntKind.wrap_i64]; omega
  have HB : Hid (Below w.heap.size w wr) := h9
  have hpI : (0 : Int) < (i : Int) + j := by omega
  have hrc := nx_reach 1000000000 (by omega) (cel 1000000000 (uR read ref) i j) i j (by omega) (by omega) (cel_ok 1000000000 (by omega) (uR read ref) (uR_bd read ref) i j (by omega) (by omega)) hp x
  have hle := nx_le (cel 1000000000 (uR read ref) i j) x
  rw [← h5] at hrc hle
  obtain ⟨z0, z1, z2, z3, z4, zr, zc⟩ := HGL.out wr h9
  have hpos := hrc.2.2 rfl
  rw [show ltr 2 = (68 : UInt8) from rfl]
  have hi1I : (i : Int) < (read.size : Int) + 1 := by omega
  obtain ⟨j1, hj1⟩ : ∃ j1, j = j1 + 1 := ⟨j - 1, by omega⟩
  have hjw : IntKind.i64.wrap ((j : Int) - 1) = (j1 : Int) := by rw [IntKind.wrap_i64]; omega
  have hj1I : (j1 : Int) < (ref.size : Int) + 1 := by omega
  obtain ⟨r1, r2, r3⟩ := zr i (by omega)
  obtain ⟨s1, s2, s3⟩ := zc i j1 (by omega) (by omega)
  have hok := cel_okB9 read ref i j1 (by omega) (by omega)
  have hcv : c = aD (cel 1000000000 (uR read ref) i j1) + 2 := by
    rw [h6, hj1]
    cases i <;> rfl
  have hN := nx2 (cel 1000000000 (uR read ref) i j1)
  rw [← hcv] at hN
  obtain ⟨cc, hcc⟩ : ∃ cc, cc = cel 1000000000 (uR read ref) i j1 := ⟨_, rfl⟩
  have HCC : Hid (cc = cel 1000000000 (uR read ref) i j1) := hcc
  rw [← hcc] at s1 s2 s3 hok hN hcv
  obtain ⟨cm, ci, cd⟩ := cc
  unfold okB at hok
  have haM : aM ⟨cm, ci, cd⟩ = min cm (min ci cd) := rfl
  have haI : aI ⟨cm, ci, cd⟩ = min (cm + 4) (min ci (cd + 4)) := rfl
  have haD : aD ⟨cm, ci, cd⟩ = min (cm + 4) (min (ci + 4) cd) := rfl
  rw [haD] at hcv
  simp only at s1 s2 s3 hok hN
  have hcb : 0 ≤ c ∧ c ≤ 1600000000 := by omega
  have w6 : IntKind.i64.wrap (cm + 6) = cm + 6 := by rw [IntKind.wrap_i64]; omega
  have wi : IntKind.i64.wrap (ci + 6) = ci + 6 := by rw [IntKind.wrap_i64]; omega
  have c6 : IntKind.i64.wrap (c - 6) = c - 6 := by rw [IntKind.wrap_i64]; omega
  have c2 : IntKind.i64.wrap (c - 2) = c - 2 := by rw [IntKind.wrap_i64]; omega
  have HH : Hid (0 < i + j) := hp
  have HJ1 : Hid (j = j1 + 1) := hj1
  clear h7 hp hpos h1 h2 h3 h4 hj1 zr zc hcc hok hcv h5 h6 h8 hrc haM haI haD z4 r3 s3 z0 z1
  rcases hN with ⟨n1, n2, n3⟩ | ⟨n1, n2, n3, n4⟩ | ⟨n1, n2, n3, n4⟩
  · have q1 : ((cm + 6 : Int) == c) = true := by rw [beq_iff_eq]; exact n1
    have HNL : Hid (nx ⟨cm, ci, cd⟩ 2 = 0) := n2
    have HNC : Hid (c - 6 = pv ⟨cm, ci, cd⟩ 0) := n3
    clear n1 n2 n3
    go_wp2_with fail
    refine ⟨?_, ?_⟩
    · refine ⟨i, j1, 0, c - 6, _, _, _, _, _, _, _, _, _, _, _, _, _, _, _, _, _, _, _, _, _, _, _, _, _, _, _, _, _, _, _, _, _, _, _, _, _, _, _, _, _, _, _, _, _, _, _, _, _, _, _, _, _, _, _, _, _, _, _, _, _, _, _, _, _, _, _, _, _, _, _, _, _, _, _, _, _, _, _, _, _, _, _, _, _, _, _, _, _, _, _, _, _, _, _, _, _, _, _, _, _, _, _, _, _, _, _, _, _, _, _, _, _, _, _, _, _, _, _, _, _, _, _, _, _, _, _, _, _, _, _, _, _, _, _, _, _, _, _, _, _, _, _, _, _, _, _, _, _, _, _, _, _, _, _, _, _, _, _, _, _, _, _, _, _, _, _, _, _, _, _, _, _, _, _, _, _, _, _, _, _, _, _, _, _, _, _, _, _, _, _, _, _, _, _, _, _, _, _, ?_, rfl⟩
      exact LtI.step hn hm HI.out HH.out (HB.out) i j1 0 (c - 6) (by first | (have := HI1.out; simp; omega) | simp) (by first | (have := HJ1.out; simp; omega) | simp) (by rw [← HCC.out]; exact HNL.out.symm) (by rw [← HCC.out]; exact HNC.out)
    · (try have m1 := HI1.out); (try have m2 := HJ1.out); simp [Lmu, intOf]; omega
  · have q1 : ((cm + 6 : Int) == c) = false := by rw [beq_eq_false_iff_ne]; exact n1
    have q2 : ((ci + 6 : Int) == c) = true := by rw [beq_iff_eq]; exact n2
    have HNL : Hid (nx ⟨cm, ci, cd⟩ 2 = 1) := n3
    have HNC : Hid (c - 6 = pv ⟨cm, ci, cd⟩ 1) := n4
    clear n1 n2 n3 n4
    go_wp2_with fail
    refine ⟨?_, ?_⟩
    · refine ⟨i, j1, 1, c - 6, _, _, _, _, _, _, _, _, _, _, _, _, _, _, _, _, _, _, _, _, _, _, _, _, _, _, _, _, _, _, _, _, _, _, _, _, _, _, _, _, _, _, _, _, _, _, _, _, _, _, _, _, _, _, _, _, _, _, _, _, _, _, _, _, _, _, _, _, _, _, _, _, _, _, _, _, _, _, _, _, _, _, _, _, _, _, _, _, _, _, _, _, _, _, _, _, _, _, _, _, _, _, _, _, _, _, _, _, _, _, _, _, _, _, _, _, _, _, _, _, _, _, _, _, _, _, _, _, _, _, _, _, _, _, _, _, _, _, _, _, _, _, _, _, _, _, _, _, _, _, _, _, _, _, _, _, _, _, _, _, _, _, _, _, _, _, _, _, _, _, _, _, _, _, _, _, _, _, _, _, _, _, _, _, _, _, _, _, _, _, _, _, _, _, _, _, _, _, _, ?_, rfl⟩
      exact LtI.step hn hm HI.out HH.out (HB.out) i j1 1 (c - 6) (by first | (have := HI1.out; simp; omega) | simp) (by first | (have := HJ1.out; simp; omega) | simp) (by rw [← HCC.out]; exact HNL.out.symm) (by rw [← HCC.out]; exact HNC.out)
    · (try have m1 := HI1.out); (try have m2 := HJ1.out); simp [Lmu, intOf]; omega
  · have q1 : ((cm + 6 : Int) == c) = false := by rw [beq_eq_false_iff_ne]; exact n1
    have q2 : ((ci + 6 : Int) == c) = false := by rw [beq_eq_false_iff_ne]; exact n2
    have HNL : Hid (nx ⟨cm, ci, cd⟩ 2 = 2) := n3
    have HNC : Hid (c - 2 = pv ⟨cm, ci, cd⟩ 2) := n4
    clear n1 n2 n3 n4
    go_wp2_with fail
    refine ⟨?_, ?_⟩
    · refine ⟨i, j1, 2, c - 2, _, _, _, _, _, _, _, _, _, _, _, _, _, _, _, _, _, _, _, _, _, _, _, _, _, _, _, _, _, _, _, _, _, _, _, _, _, _, _, _, _, _, _, _, _, _, _, _, _, _, _, _, _, _, _, _, _, _, _, _, _, _, _, _, _, _, _, _, _, _, _, _, _, _, _, _, _, _, _, _, _, _, _, _, _, _, _, _, _, _, _, _, _, _, _, _, _, _, _, _, _, _, _, _, _, _, _, _, _, _, _, _, _, _, _, _, _, _, _, _, _, _, _, _, _, _, _, _, _, _, _, _, _, _, _, _, _, _, _, _, _, _, _, _, _, _, _, _, _, _, _, _, _, _, _, _, _, _, _, _, _, _, _, _, _, _, _, _, _, _, _, _, _, _, _, _, _, _, _, _, _, _, _, _, _, _, _, _, _, _, _, _, _, _, _, _, _, _, _, ?_, rfl⟩
      exact LtI.step hn hm HI.out HH.out (HB.out) i j1 2 (c - 2) (by first | (have := HI1.out; simp; omega) | simp) (by first | (have := HJ1.out; simp; omega) | simp) (by rw [← HCC.out]; exact HNL.out.symm) (by rw [← HCC.out]; exact HNC.out)
    · (try have m1 := HI1.out); (try have m2 := HJ1.out); simp [Lmu, intOf]; omega
end Go.Proofs.YtilcmkiihefkkaaDoor
