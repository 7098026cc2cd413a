import Derived.Test.YtilcmkiihefkkaaDoorSiF
set_option linter.unusedVariables false
set_option linter.unusedSimpArgs false
set_option maxRecDepth 1000000
namespace Go.Proofs.YtilcmkiihefkkaaDoor
open Go.RowKit Go.Shelf

set_option maxHeartbeats 16000000 in
theorem j_caseB (read ref : ByteArray) (hn : read.size ≤ 300) (hm : ref.size ≤ 600) (w4 : World) (G i gM oM cM gI oI cI gD oD cD p q r : Nat) (bM bI bD : Nat → Nat) (hi : i ≤ read.size) (hgf : ∀ W, But3 w4 W p q r → GF read ref W G i (.slice (some ⟨gM, oM, none⟩) (i + 1) cM) (.slice (some ⟨gI, oI, none⟩) (i + 1) cI) (.slice (some ⟨gD, oD, none⟩) (i + 1) cD) gM oM gI oI gD oD bM bI bD) (hep : bM i = p ∧ bI i = q ∧ bD i = r) (hpq : p ≠ q) (hpr : p ≠ r) (hqr : q ≠ r) (j : Nat) (hj : j ≤ ref.size) (hi0 : i = 0) (hj0 : 0 < j) (w5 : World) (hR : JRel read ref w4 p q r i j w5) (u2 u3 u4 u8 u9 u10 u11 u12 u13 u14 u15 u16 u17 u18 u19 u20 u21 u22 u23 u24 u25 u26 u27 u28 u29 u30 u31 u32 u33 u34 u35 u36 u37 u38 u39 u40 u41 u42 u43 u44 u45 u46 u47 u48 u49 u50 u51 u52 u53 u54 u55 u56 u57 u58 u59 u60 u61 u62 u63 u64 u65 u66 u67 u68 u69 u70 u71 u72 u73 u74 u75 u76 u77 u78 u79 u80 u81 u82 u83 u84 u85 u86 u87 u88 u89 u90 u91 u92 u93 u94 u95 u96 u97 u98 u99 u100 u101 u102 u103 u104 u105 u106 u107 u108 u109 u110 u111 u112 u113 u114 u115 u116 u117 u118 u119 u120 u121 u122 u123 u124 u125 u126 u127 u128 u129 u130 u131 u132 u133 u134 u135 u136 u137 u138 u139 u140 u141 u142 u143 u144 u145 u146 u147 u148 u149 u150 u151 u152 u153 u154 u155 u156 u157 u158 u159 u160 u161 u162 u163 u164 u165 u166 u167 u168 u169 u170 u171 u172 u173 u174 u175 u176 u177 u178 u179 u180 u181 u182 u183 u184 u185 u186 u187 u188 u189 u190 u191 u192 u193 u194 u195 u196 u197 u198 u199 u200 u201 u202 u203 u204 u205 u206 u207 u208 u209 u210 u211 u212 u213 u214 u215 u216 u217 u218 u219 u220 u221 u222 u223 u224 u225 u226 u227 u228 u229 u230 u231 u232 u233 u234 u235 u236 u237 u238 u239 u240 u241 u242 u243 u244 u245 u246 u247 u248 u249 u250 u251 u252 u253 u254 u255 u256 u257 u258 u259 u260 u261 u262 u263 u264 u265 u266 u267 u268 u269 u270 u271 u272 u273 u274 u275 u276 : Value) (Q0 : Exit → Act → World → Prop) (hQ0 : ∀ (c : List PanicEntry) (a : Act) (d : Option Tmp) (v : Value) (w : World), Q0 (.panic c) (a.put d v) w → Q0 (.panic c) a w) (B : Code) (hB : ((Tryd.f28.body.bind firstLoop).bind firstLoop) = some B) :
    Code.wp Tryd.prog B (Exit.then (fun a' w' => JInv read ref w4 G p q r i a' w' ∧ JMu ref.size a' w' < JMu ref.size ⟨#[.string read, .string ref, u2, u3, u4, .pointer (some ⟨G, 0, none⟩), .int .i64 i, .int .i64 ((j : Nat)), u8, u9, u10, u11, u12, u13, u14, u15, u16, u17, u18, u19, u20, u21, u22, u23, u24, u25, u26, u27, u28, u29, u30, u31, u32, u33, u34, u35, u36, u37, u38, u39, u40, u41, u42, u43, u44, u45, u46, u47, u48, u49, u50, u51, u52, u53, u54, u55, u56, u57, u58, u59, u60, u61, u62, u63, u64, u65, u66, u67, u68, u69, u70, u71, u72, u73, u74, u75, u76, u77, u78, u79, u80, u81, u82, u83, u84, u85, u86, u87, u88, u89, u90, u91, u92, u93, u94, u95, u96, u97, u98, u99, u100, u101, u102, u103, u104, u105, u106, u107, u108, u109, u110, u111, u112, u113, u114, u115, u116, u117, u118, u119, u120, u121, u122, u123, u124, u125, u126, u127, u128, u129, u130, u131, u132, u133, u134, u135, u136, u137, u138, u139, u140, u141, u142, u143, u144, u145, u146, u147, u148, u149, u150, u151, u152, u153, u154, u155, u156, u157, u158, u159, u160, u161, u162, u163, u164, u165, u166, u167, u168, u169, u170, u171, u172, u173, u174, u175, u176, u177, u178, u179, u180, u181, u182, u183, u184, u185, u186, u187, u188, u189, u190, u191, u192, u193, u194, u195, u196, u197, u198, u199, u200, u201, u202, u203, u204, u205, u206, u207, u208, u209, u210, u211, u212, u213, u214, u215, u216, u217, u218, u219, u220, u221, u222, u223, u224, u225, u226, u227, u228, u229, u230, u231, u232, u233, u234, u235, u236, u237, u238, u239, u240, u241, u242, u243, u244, u245, u246, u247, u248, u249, u250, u251, u252, u253, u254, u255, u256, u257, u258, u259, u260, u261, u262, u263, u264, u265, u266, u267, u268, u269, u270, u271, u272, u273, u274, u275, u276], []⟩ w5) Q0) ⟨#[.string read, .string ref, u2, u3, u4, .pointer (some ⟨G, 0, none⟩), .int .i64 i, .int .i64 ((j : Nat)), u8, u9, u10, u11, u12, u13, u14, u15, u16, u17, u18, u19, u20, u21, u22, u23, u24, u25, u26, u27, u28, u29, u30, u31, u32, u33, u34, u35, u36, u37, u38, u39, u40, u41, u42, u43, u44, u45, u46, u47, u48, u49, u50, u51, u52, u53, u54, u55, u56, u57, u58, u59, u60, u61, u62, u63, u64, u65, u66, u67, u68, u69, u70, u71, u72, u73, u74, u75, u76, u77, u78, u79, u80, u81, u82, u83, u84, u85, u86, u87, u88, u89, u90, u91, u92, u93, u94, u95, u96, u97, u98, u99, u100, u101, u102, u103, u104, u105, u106, u107, u108, u109, u110, u111, u112, u113, u114, u115, u116, u117, u118, u119, u120, u121, u122, u123, u124, u125, u126, u127, u128, u129, u130, u131, u132, u133, u134, u135, u136, u137, u138, u139, u140, u141, u142, u143, u144, u145, u146, u147, u148, u149, u150, u151, u152, u153, u154, u155, u156, u157, u158, u159, u160, u161, u162, u163, u164, u165, u166, u167, u168, u169, u170, u171, u172, u173, u174, u175, u176, u177, u178, u179, u180, u181, u182, u183, u184, u185, u186, u187, u188, u189, u190, u191, u192, u193, u194, u195, u196, u197, u198, u199, u200, u201, u202, u203, u204, u205, u206, u207, u208, u209, u210, u211, u212, u213, u214, u215, u216, u217, u218, u219, u220, u221, u222, u223, u224, u225, u226, u227, u228, u229, u230, u231, u232, u233, u234, u235, u236, u237, u238, u239, u240, u241, u242, u243, u244, u245, u246, u247, u248, u249, u250, u251, u252, u253, u254, u255, u256, u257, u258, u259, u260, u261, u262, u263, u264, u265, u266, u267, u268, u269, u270, u271, u272, u273, u274, u275, u276], []⟩ w5 := by
  have hB2 := hB
  conv at hB2 => lhs; whnf
  injection hB2 with hB2
  subst hB2
  clear hB
  obtain ⟨hb5, rp5, rq5, rr5⟩ := hR
  have HGF : Hid (∀ W, But3 w4 W p q r → GF read ref W G i (.slice (some ⟨gM, oM, none⟩) (i + 1) cM) (.slice (some ⟨gI, oI, none⟩) (i + 1) cI) (.slice (some ⟨gD, oD, none⟩) (i + 1) cD) gM oM gI oI gD oD bM bI bD) := hgf
  have HEP : Hid (bM i = p ∧ bI i = q ∧ bD i = r) := hep
  have hjlI : (j : Int) ≤ ref.size := by omega
  have hjI : (j : Int) < (ref.size : Int) + 1 := by omega
  have hiI : (i : Int) < (i : Int) + 1 := by omega
  have HI0 : Hid (i = 0) := hi0
  have HJ0 : Hid (0 < j) := hj0
  clear hi0 hj0
  have gf0 := HGF.out w5 hb5
  have sl0 := (gf0.2.2.2.1 i (Nat.le_refl _)).1
  rw [HEP.out.1] at sl0
  have fd0 := gf0.1
  obtain ⟨⟨y0, cy0⟩, fz0⟩ := rp5.any j (by omega)
  clear gf0
  go_upto_region 12 with fail
  obtain ⟨w6, hw6⟩ : ∃ x : World, x = w5.setCell ⟨p, j, none⟩ (.int .i64 1000000000) := ⟨_, rfl⟩
  have hb6 : But3 w4 w6 p q r := by rw [hw6]; exact hb5.set _ _ _ (by exact Or.inl rfl)
  have xp6 := rp5.set (by omega) 1000000000
  rw [← hw6] at xp6
  have rq6 : RP w6 q (ref.size + 1) j (fun k => (cel 1000000000 (uR read ref) i k).i) := rq5.other (by rw [hw6]; exact heap_setCell_other w5 _ q _ (Ne.symm hpq))
  have rr6 : RP w6 r (ref.size + 1) j (fun k => (cel 1000000000 (uR read ref) i k).d) := rr5.other (by rw [hw6]; exact heap_setCell_other w5 _ r _ (Ne.symm hpr))
  rw [← hw6]
  clear hw6 hb5 rp5 rq5 rr5 sl0 fd0 cy0 fz0
  have gf1 := HGF.out w6 hb6
  have sl1 := (gf1.2.2.2.1 i (Nat.le_refl _)).2.1
  rw [HEP.out.2.1] at sl1
  have fd1 := gf1.2.1
  obtain ⟨⟨y1, cy1⟩, fz1⟩ := rq6.any j (by omega)
  clear gf1
  go_upto_region 13 with fail
  obtain ⟨w7, hw7⟩ : ∃ x : World, x = w6.setCell ⟨q, j, none⟩ (.int .i64 1000000000) := ⟨_, rfl⟩
  have hb7 : But3 w4 w7 p q r := by rw [hw7]; exact hb6.set _ _ _ (by exact Or.inr (Or.inl rfl))
  have xq7 := rq6.set (by omega) 1000000000
  rw [← hw7] at xq7
  have xp7 := xp6.other (w' := w7) (by rw [hw7]; exact heap_setCell_other w6 _ p _ hpq)
  have rr7 : RP w7 r (ref.size + 1) j (fun k => (cel 1000000000 (uR read ref) i k).d) := rr6.other (by rw [hw7]; exact heap_setCell_other w6 _ r _ (Ne.symm hqr))
  rw [← hw7]
  clear hw7 hb6 xp6 rq6 rr6 sl1 fd1 cy1 fz1
  have gf2 := HGF.out w7 hb7
  have sl2 := (gf2.2.2.2.1 i (Nat.le_refl _)).2.2
  rw [HEP.out.2.2] at sl2
  have fd2 := gf2.2.2.1
  obtain ⟨⟨y2, cy2⟩, fz2⟩ := rr7.any j (by omega)
  clear gf2
  go_upto_region 14 with fail
  obtain ⟨w8, hw8⟩ : ∃ x : World, x = w7.setCell ⟨r, j, none⟩ (.int .i64 1000000000) := ⟨_, rfl⟩
  have hb8 : But3 w4 w8 p q r := by rw [hw8]; exact hb7.set _ _ _ (by exact Or.inr (Or.inr rfl))
  have xr8 := rr7.set (by omega) 1000000000
  rw [← hw8] at xr8
  have xp8 := xp7.other (w' := w8) (by rw [hw8]; exact heap_setCell_other w7 _ p _ hpr)
  have xq8 := xq7.other (w' := w8) (by rw [hw8]; exact heap_setCell_other w7 _ q _ hqr)
  rw [← hw8]
  have HXQ8 : Hid (RX w8 q (ref.size + 1) j (fun k => (cel 1000000000 (uR read ref) i k).i) 1000000000) := xq8
  have HXR8 : Hid (RX w8 r (ref.size + 1) j (fun k => (cel 1000000000 (uR read ref) i k).d) 1000000000) := xr8
  have HXP8 : Hid (RX w8 p (ref.size + 1) j (fun k => (cel 1000000000 (uR read ref) i k).m) 1000000000) := xp8
  have HB8 : Hid (But3 w4 w8 p q r) := hb8
  clear hw8 hb7 xp7 xq7 rr7 sl2 fd2 cy2 fz2 xq8 xr8 xp8 hb8
  have hi0 := HI0.out
  have hj0 := HJ0.out
  have hiz : ((i : Int) == 0) = true := by rw [beq_iff_eq]; omega
  have hjz : ((j : Int) == 0) = false := by rw [beq_eq_false_iff_ne]; omega
  have hip : ¬ (0 : Int) < i := by omega
  have hjp : (0 : Int) < j := by omega
  clear hi0 hj0
  go_wp2_with fail
  refine i_loop read ref hn hm w4 G i gM oM cM gI oI cI gD oD cD p q r bM bI bD hi hgf hep hpq hpr hqr j hj 1000000000 _ ?_ ?_ _ rfl _ _ _ _ _ _ _ _ _ _ _ _ _ _ _ _ _ _ _ _ _ _ _ _ _ _ _ _ _ _ _ _ _ _ _ _ _ _ _ _ _ _ _ _ _ _ _ _ _ _ _ _ _ _ _ _ _ _ _ _ _ _ _ _ _ _ _ _ _ _ _ _ _ _ _ _ _ _ _ _ _ _ _ _ _ _ _ _ _ _ _ _ _ _ _ _ _ _ _ _ _ _ _ _ _ _ _ _ _ _ _ _ _ _ _ _ _ _ _ _ _ _ _ _ _ _ _ _ _ _ _ _ _ _ _ _ _ _ _ _ _ _ _ _ _ _ _ _ _ _ _ _ _ _ _ _ _ _ _ _ _ _ _ _ _ _ _ _ _ _ _ _ _ _ _ _ _ _ _ _ _ _ _ _ _ _ _ _ _ _ _ _ _ _ _ _ _ _ _ _ _ _ _ _ _ _ _ _ _ _ _ _ _ _ _ _ _ _ _ _ _ _ _ _ _ _ _ _ _ _ _ _ _ _ _ _ _ _ _ _ _ _ _ _ _ _ _ _ _ _ _ _ _ _ _ _ _ _ _ _ _ _ _ _ _ _ _ _ _ _ _ w8 ⟨Nat.zero_le _, HB8.out, HXP8.out, HXQ8.out, HXR8.out⟩
  · exact fun c a d v w h => hQ0 c a d v w h
  intro a' wI hE
  unfold IEnd at hE
  obtain ⟨xu2, hE⟩ := hE
  obtain ⟨xu3, hE⟩ := hE
  obtain ⟨xu4, hE⟩ := hE
  obtain ⟨xu8, hE⟩ := hE
  obtain ⟨xu9, hE⟩ := hE
  obtain ⟨xu10, hE⟩ := hE
  obtain ⟨xu11, hE⟩ := hE
  obtain ⟨xu12, hE⟩ := hE
  obtain ⟨xu13, hE⟩ := hE
  obtain ⟨xu14, hE⟩ := hE
  obtain ⟨xu15, hE⟩ := hE
  obtain ⟨xu16, hE⟩ := hE
  obtain ⟨xu17, hE⟩ := hE
  obtain ⟨xu18, hE⟩ := hE
  obtain ⟨xu19, hE⟩ := hE
  obtain ⟨xu20, hE⟩ := hE
  obtain ⟨xu21, hE⟩ := hE
  obtain ⟨xu22, hE⟩ := hE
  obtain ⟨xu23, hE⟩ := hE
  obtain ⟨xu24, hE⟩ := hE
  obtain ⟨xu25, hE⟩ := hE
  obtain ⟨xu26, hE⟩ := hE
  obtain ⟨xu27, hE⟩ := hE
  obtain ⟨xu28, hE⟩ := hE
  obtain ⟨xu29, hE⟩ := hE
  obtain ⟨xu30, hE⟩ := hE
  obtain ⟨xu31, hE⟩ := hE
  obtain ⟨xu32, hE⟩ := hE
  obtain ⟨xu33, hE⟩ := hE
  obtain ⟨xu34, hE⟩ := hE
  obtain ⟨xu35, hE⟩ := hE
  obtain ⟨xu36, hE⟩ := hE
  obtain ⟨xu37, hE⟩ := hE
  obtain ⟨xu38, hE⟩ := hE
  obtain ⟨xu39, hE⟩ := hE
  obtain ⟨xu40, hE⟩ := hE
  obtain ⟨xu41, hE⟩ := hE
  obtain ⟨xu42, hE⟩ := hE
  obtain ⟨xu43, hE⟩ := hE
  obtain ⟨xu44, hE⟩ := hE
  obtain ⟨xu45, hE⟩ := hE
  obtain ⟨xu46, hE⟩ := hE
  obtain ⟨xu47, hE⟩ := hE
  obtain ⟨xu48, hE⟩ := hE
  obtain ⟨xu49, hE⟩ := hE
  obtain ⟨xu50, hE⟩ := hE
  obtain ⟨xu51, hE⟩ := hE
  obtain ⟨xu52, hE⟩ := hE
  obtain ⟨xu53, hE⟩ := hE
  obtain ⟨xu54, hE⟩ := hE
  obtain ⟨xu55, hE⟩ := hE
  obtain ⟨xu56, hE⟩ := hE
  obtain ⟨xu57, hE⟩ := hE
  obtain ⟨xu58, hE⟩ := hE
  obtain ⟨xu59, hE⟩ := hE
  obtain ⟨xu60, hE⟩ := hE
  obtain ⟨xu61, hE⟩ := hE
  obtain ⟨xu62, hE⟩ := hE
  obtain ⟨xu63, hE⟩ := hE
  obtain ⟨xu64, hE⟩ := hE
  obtain ⟨xu65, hE⟩ := hE
  obtain ⟨xu66, hE⟩ := hE
  obtain ⟨xu67, hE⟩ := hE
  obtain ⟨xu68, hE⟩ := hE
  obtain ⟨xu69, hE⟩ := hE
  obtain ⟨xu70, hE⟩ := hE
  obtain ⟨xu71, hE⟩ := hE
  obtain ⟨xu72, hE⟩ := hE
  obtain ⟨xu73, hE⟩ := hE
  obtain ⟨xu74, hE⟩ := hE
  obtain ⟨xu75, hE⟩ := hE
  obtain ⟨xu76, hE⟩ := hE
  obtain ⟨xu77, hE⟩ := hE
  obtain ⟨xu78, hE⟩ := hE
  obtain ⟨xu79, hE⟩ := hE
  obtain ⟨xu80, hE⟩ := hE
  obtain ⟨xu81, hE⟩ := hE
  obtain ⟨xu82, hE⟩ := hE
  obtain ⟨xu83, hE⟩ := hE
  obtain ⟨xu84, hE⟩ := hE
  obtain ⟨xu85, hE⟩ := hE
  obtain ⟨xu86, hE⟩ := hE
  obtain ⟨xu87, hE⟩ := hE
  obtain ⟨xu88, hE⟩ := hE
  obtain ⟨xu89, hE⟩ := hE
  obtain ⟨xu90, hE⟩ := hE
  obtain ⟨xu91, hE⟩ := hE
  obtain ⟨xu92, hE⟩ := hE
  obtain ⟨xu93, hE⟩ := hE
  obtain ⟨xu94, hE⟩ := hE
  obtain ⟨xu95, hE⟩ := hE
  obtain ⟨xu96, hE⟩ := hE
  obtain ⟨xu97, hE⟩ := hE
  obtain ⟨xu98, hE⟩ := hE
  obtain ⟨xu99, hE⟩ := hE
  obtain ⟨xu100, hE⟩ := hE
  obtain ⟨xu101, hE⟩ := hE
  obtain ⟨xu102, hE⟩ := hE
  obtain ⟨xu103, hE⟩ := hE
  obtain ⟨xu104, hE⟩ := hE
  obtain ⟨xu105, hE⟩ := hE
  obtain ⟨xu106, hE⟩ := hE
  obtain ⟨xu107, hE⟩ := hE
  obtain ⟨xu108, hE⟩ := hE
  obtain ⟨xu109, hE⟩ := hE
  obtain ⟨xu110, hE⟩ := hE
  obtain ⟨xu111, hE⟩ := hE
  obtain ⟨xu112, hE⟩ := hE
  obtain ⟨xu113, hE⟩ := hE
  obtain ⟨xu114, hE⟩ := hE
  obtain ⟨xu115, hE⟩ := hE
  obtain ⟨xu116, hE⟩ := hE
  obtain ⟨xu117, hE⟩ := hE
  obtain ⟨xu118, hE⟩ := hE
  obtain ⟨xu119, hE⟩ := hE
  obtain ⟨xu120, hE⟩ := hE
  obtain ⟨xu121, hE⟩ := hE
  obtain ⟨xu122, hE⟩ := hE
  obtain ⟨xu123, hE⟩ := hE
  obtain ⟨xu124, hE⟩ := hE
  obtain ⟨xu125, hE⟩ := hE
  obtain ⟨xu126, hE⟩ := hE
  obtain ⟨xu127, hE⟩ := hE
  obtain ⟨xu128, hE⟩ := hE
  obtain ⟨xu129, hE⟩ := hE
  obtain ⟨xu130, hE⟩ := hE
  obtain ⟨xu131, hE⟩ := hE
  obtain ⟨xu132, hE⟩ := hE
  obtain ⟨xu133, hE⟩ := hE
  obtain ⟨xu134, hE⟩ := hE
  obtain ⟨xu135, hE⟩ := hE
  obtain ⟨xu136, hE⟩ := hE
  obtain ⟨xu137, hE⟩ := hE
  obtain ⟨xu138, hE⟩ := hE
  obtain ⟨xu139, hE⟩ := hE
  obtain ⟨xu140, hE⟩ := hE
  obtain ⟨xu141, hE⟩ := hE
  obtain ⟨xu142, hE⟩ := hE
  obtain ⟨xu143, hE⟩ := hE
  obtain ⟨xu144, hE⟩ := hE
  obtain ⟨xu145, hE⟩ := hE
  obtain ⟨xu146, hE⟩ := hE
  obtain ⟨xu147, hE⟩ := hE
  obtain ⟨xu148, hE⟩ := hE
  obtain ⟨xu149, hE⟩ := hE
  obtain ⟨xu150, hE⟩ := hE
  obtain ⟨xu151, hE⟩ := hE
  obtain ⟨xu152, hE⟩ := hE
  obtain ⟨xu153, hE⟩ := hE
  obtain ⟨xu154, hE⟩ := hE
  obtain ⟨xu155, hE⟩ := hE
  obtain ⟨xu156, hE⟩ := hE
  obtain ⟨xu157, hE⟩ := hE
  obtain ⟨xu158, hE⟩ := hE
  obtain ⟨xu159, hE⟩ := hE
  obtain ⟨xu160, hE⟩ := hE
  obtain ⟨xu161, hE⟩ := hE
  obtain ⟨xu162, hE⟩ := hE
  obtain ⟨xu163, hE⟩ := hE
  obtain ⟨xu164, hE⟩ := hE
  obtain ⟨xu165, hE⟩ := hE
  obtain ⟨xu166, hE⟩ := hE
  obtain ⟨xu167, hE⟩ := hE
  obtain ⟨xu168, hE⟩ := hE
  obtain ⟨xu169, hE⟩ := hE
  obtain ⟨xu170, hE⟩ := hE
  obtain ⟨xu171, hE⟩ := hE
  obtain ⟨xu172, hE⟩ := hE
  obtain ⟨xu173, hE⟩ := hE
  obtain ⟨xu174, hE⟩ := hE
  obtain ⟨xu175, hE⟩ := hE
  obtain ⟨xu176, hE⟩ := hE
  obtain ⟨xu177, hE⟩ := hE
  obtain ⟨xu178, hE⟩ := hE
  obtain ⟨xu179, hE⟩ := hE
  obtain ⟨xu180, hE⟩ := hE
  obtain ⟨xu181, hE⟩ := hE
  obtain ⟨xu182, hE⟩ := hE
  obtain ⟨xu183, hE⟩ := hE
  obtain ⟨xu184, hE⟩ := hE
  obtain ⟨xu185, hE⟩ := hE
  obtain ⟨xu186, hE⟩ := hE
  obtain ⟨xu187, hE⟩ := hE
  obtain ⟨xu188, hE⟩ := hE
  obtain ⟨xu189, hE⟩ := hE
  obtain ⟨xu190, hE⟩ := hE
  obtain ⟨xu191, hE⟩ := hE
  obtain ⟨xu192, hE⟩ := hE
  obtain ⟨xu193, hE⟩ := hE
  obtain ⟨xu194, hE⟩ := hE
  obtain ⟨xu195, hE⟩ := hE
  obtain ⟨xu196, hE⟩ := hE
  obtain ⟨xu197, hE⟩ := hE
  obtain ⟨xu198, hE⟩ := hE
  obtain ⟨xu199, hE⟩ := hE
  obtain ⟨xu200, hE⟩ := hE
  obtain ⟨xu201, hE⟩ := hE
  obtain ⟨xu202, hE⟩ := hE
  obtain ⟨xu203, hE⟩ := hE
  obtain ⟨xu204, hE⟩ := hE
  obtain ⟨xu205, hE⟩ := hE
  obtain ⟨xu206, hE⟩ := hE
  obtain ⟨xu207, hE⟩ := hE
  obtain ⟨xu208, hE⟩ := hE
  obtain ⟨xu209, hE⟩ := hE
  obtain ⟨xu210, hE⟩ := hE
  obtain ⟨xu211, hE⟩ := hE
  obtain ⟨xu212, hE⟩ := hE
  obtain ⟨xu213, hE⟩ := hE
  obtain ⟨xu214, hE⟩ := hE
  obtain ⟨xu215, hE⟩ := hE
  obtain ⟨xu216, hE⟩ := hE
  obtain ⟨xu217, hE⟩ := hE
  obtain ⟨xu218, hE⟩ := hE
  obtain ⟨xu219, hE⟩ := hE
  obtain ⟨xu220, hE⟩ := hE
  obtain ⟨xu221, hE⟩ := hE
  obtain ⟨xu222, hE⟩ := hE
  obtain ⟨xu223, hE⟩ := hE
  obtain ⟨xu224, hE⟩ := hE
  obtain ⟨xu225, hE⟩ := hE
  obtain ⟨xu226, hE⟩ := hE
  obtain ⟨xu227, hE⟩ := hE
  obtain ⟨xu228, hE⟩ := hE
  obtain ⟨xu229, hE⟩ := hE
  obtain ⟨xu230, hE⟩ := hE
  obtain ⟨xu231, hE⟩ := hE
  obtain ⟨xu232, hE⟩ := hE
  obtain ⟨xu233, hE⟩ := hE
  obtain ⟨xu234, hE⟩ := hE
  obtain ⟨xu235, hE⟩ := hE
  obtain ⟨xu236, hE⟩ := hE
  obtain ⟨xu237, hE⟩ := hE
  obtain ⟨xu238, hE⟩ := hE
  obtain ⟨xu239, hE⟩ := hE
  obtain ⟨xu240, hE⟩ := hE
  obtain ⟨xu241, hE⟩ := hE
  obtain ⟨xu242, hE⟩ := hE
  obtain ⟨xu243, hE⟩ := hE
  obtain ⟨xu244, hE⟩ := hE
  obtain ⟨xu245, hE⟩ := hE
  obtain ⟨xu246, hE⟩ := hE
  obtain ⟨xu247, hE⟩ := hE
  obtain ⟨xu248, hE⟩ := hE
  obtain ⟨xu249, hE⟩ := hE
  obtain ⟨xu250, hE⟩ := hE
  obtain ⟨xu251, hE⟩ := hE
  obtain ⟨xu252, hE⟩ := hE
  obtain ⟨xu253, hE⟩ := hE
  obtain ⟨xu254, hE⟩ := hE
  obtain ⟨xu255, hE⟩ := hE
  obtain ⟨xu256, hE⟩ := hE
  obtain ⟨xu257, hE⟩ := hE
  obtain ⟨xu258, hE⟩ := hE
  obtain ⟨xu259, hE⟩ := hE
  obtain ⟨xu260, hE⟩ := hE
  obtain ⟨xu261, hE⟩ := hE
  obtain ⟨xu262, hE⟩ := hE
  obtain ⟨xu263, hE⟩ := hE
  obtain ⟨xu264, hE⟩ := hE
  obtain ⟨xu265, hE⟩ := hE
  obtain ⟨xu266, hE⟩ := hE
  obtain ⟨xu267, hE⟩ := hE
  obtain ⟨xu268, hE⟩ := hE
  obtain ⟨xu269, hE⟩ := hE
  obtain ⟨xu270, hE⟩ := hE
  obtain ⟨xu271, hE⟩ := hE
  obtain ⟨xu272, hE⟩ := hE
  obtain ⟨xu273, hE⟩ := hE
  obtain ⟨xu274, hE⟩ := hE
  obtain ⟨xu275, hE⟩ := hE
  obtain ⟨xu276, hE⟩ := hE
  obtain ⟨⟨_, bI9, pI9, qI9, rI9⟩, ha⟩ := hE
  subst ha
  have HI9 : Hid (DRel read ref w4 p q r i j (1000000000) (gapI 1000000000 (uR read ref) i j i) 0 wI) := ⟨Nat.zero_le _, bI9, pI9, qI9, rI9⟩
  clear bI9 pI9 qI9 rI9
  go_wp2_with fail
  refine d_loop read ref hn hm w4 G i gM oM cM gI oI cI gD oD cD p q r bM bI bD hi hgf hep hpq hpr hqr j hj (1000000000) (gapI 1000000000 (uR read ref) i j i) _ ?_ ?_ _ rfl _ _ _ _ _ _ _ _ _ _ _ _ _ _ _ _ _ _ _ _ _ _ _ _ _ _ _ _ _ _ _ _ _ _ _ _ _ _ _ _ _ _ _ _ _ _ _ _ _ _ _ _ _ _ _ _ _ _ _ _ _ _ _ _ _ _ _ _ _ _ _ _ _ _ _ _ _ _ _ _ _ _ _ _ _ _ _ _ _ _ _ _ _ _ _ _ _ _ _ _ _ _ _ _ _ _ _ _ _ _ _ _ _ _ _ _ _ _ _ _ _ _ _ _ _ _ _ _ _ _ _ _ _ _ _ _ _ _ _ _ _ _ _ _ _ _ _ _ _ _ _ _ _ _ _ _ _ _ _ _ _ _ _ _ _ _ _ _ _ _ _ _ _ _ _ _ _ _ _ _ _ _ _ _ _ _ _ _ _ _ _ _ _ _ _ _ _ _ _ _ _ _ _ _ _ _ _ _ _ _ _ _ _ _ _ _ _ _ _ _ _ _ _ _ _ _ _ _ _ _ _ _ _ _ _ _ _ _ _ _ _ _ _ _ _ _ _ _ _ _ _ _ _ _ _ _ _ _ _ _ _ _ _ _ _ _ _ _ _ _ _ wI HI9.out
  · exact fun c a d v w h => hQ0 c a d v w h
  intro a' wD hE
  unfold DEnd at hE
  obtain ⟨zu2, hE⟩ := hE
  obtain ⟨zu3, hE⟩ := hE
  obtain ⟨zu4, hE⟩ := hE
  obtain ⟨zu8, hE⟩ := hE
  obtain ⟨zu9, hE⟩ := hE
  obtain ⟨zu10, hE⟩ := hE
  obtain ⟨zu11, hE⟩ := hE
  obtain ⟨zu12, hE⟩ := hE
  obtain ⟨zu13, hE⟩ := hE
  obtain ⟨zu14, hE⟩ := hE
  obtain ⟨zu15, hE⟩ := hE
  obtain ⟨zu16, hE⟩ := hE
  obtain ⟨zu17, hE⟩ := hE
  obtain ⟨zu18, hE⟩ := hE
  obtain ⟨zu19, hE⟩ := hE
  obtain ⟨zu20, hE⟩ := hE
  obtain ⟨zu21, hE⟩ := hE
  obtain ⟨zu22, hE⟩ := hE
  obtain ⟨zu23, hE⟩ := hE
  obtain ⟨zu24, hE⟩ := hE
  obtain ⟨zu25, hE⟩ := hE
  obtain ⟨zu26, hE⟩ := hE
  obtain ⟨zu27, hE⟩ := hE
  obtain ⟨zu28, hE⟩ := hE
  obtain ⟨zu29, hE⟩ := hE
  obtain ⟨zu30, hE⟩ := hE
  obtain ⟨zu31, hE⟩ := hE
  obtain ⟨zu32, hE⟩ := hE
  obtain ⟨zu33, hE⟩ := hE
  obtain ⟨zu34, hE⟩ := hE
  obtain ⟨zu35, hE⟩ := hE
  obtain ⟨zu36, hE⟩ := hE
  obtain ⟨zu37, hE⟩ := hE
  obtain ⟨zu38, hE⟩ := hE
  obtain ⟨zu39, hE⟩ := hE
  obtain ⟨zu40, hE⟩ := hE
  obtain ⟨zu41, hE⟩ := hE
  obtain ⟨zu42, hE⟩ := hE
  obtain ⟨zu43, hE⟩ := hE
  obtain ⟨zu44, hE⟩ := hE
  obtain ⟨zu45, hE⟩ := hE
  obtain ⟨zu46, hE⟩ := hE
  obtain ⟨zu47, hE⟩ := hE
  obtain ⟨zu48, hE⟩ := hE
  obtain ⟨zu49, hE⟩ := hE
  obtain ⟨zu50, hE⟩ := hE
  obtain ⟨zu51, hE⟩ := hE
  obtain ⟨zu52, hE⟩ := hE
  obtain ⟨zu53, hE⟩ := hE
  obtain ⟨zu54, hE⟩ := hE
  obtain ⟨zu55, hE⟩ := hE
  obtain ⟨zu56, hE⟩ := hE
  obtain ⟨zu57, hE⟩ := hE
  obtain ⟨zu58, hE⟩ := hE
  obtain ⟨zu59, hE⟩ := hE
  obtain ⟨zu60, hE⟩ := hE
  obtain ⟨zu61, hE⟩ := hE
  obtain ⟨zu62, hE⟩ := hE
  obtain ⟨zu63, hE⟩ := hE
  obtain ⟨zu64, hE⟩ := hE
  obtain ⟨zu65, hE⟩ := hE
  obtain ⟨zu66, hE⟩ := hE
  obtain ⟨zu67, hE⟩ := hE
  obtain ⟨zu68, hE⟩ := hE
  obtain ⟨zu69, hE⟩ := hE
  obtain ⟨zu70, hE⟩ := hE
  obtain ⟨zu71, hE⟩ := hE
  obtain ⟨zu72, hE⟩ := hE
  obtain ⟨zu73, hE⟩ := hE
  obtain ⟨zu74, hE⟩ := hE
  obtain ⟨zu75, hE⟩ := hE
  obtain ⟨zu76, hE⟩ := hE
  obtain ⟨zu77, hE⟩ := hE
  obtain ⟨zu78, hE⟩ := hE
  obtain ⟨zu79, hE⟩ := hE
  obtain ⟨zu80, hE⟩ := hE
  obtain ⟨zu81, hE⟩ := hE
  obtain ⟨zu82, hE⟩ := hE
  obtain ⟨zu83, hE⟩ := hE
  obtain ⟨zu84, hE⟩ := hE
  obtain ⟨zu85, hE⟩ := hE
  obtain ⟨zu86, hE⟩ := hE
  obtain ⟨zu87, hE⟩ := hE
  obtain ⟨zu88, hE⟩ := hE
  obtain ⟨zu89, hE⟩ := hE
  obtain ⟨zu90, hE⟩ := hE
  obtain ⟨zu91, hE⟩ := hE
  obtain ⟨zu92, hE⟩ := hE
  obtain ⟨zu93, hE⟩ := hE
  obtain ⟨zu94, hE⟩ := hE
  obtain ⟨zu95, hE⟩ := hE
  obtain ⟨zu96, hE⟩ := hE
  obtain ⟨zu97, hE⟩ := hE
  obtain ⟨zu98, hE⟩ := hE
  obtain ⟨zu99, hE⟩ := hE
  obtain ⟨zu100, hE⟩ := hE
  obtain ⟨zu101, hE⟩ := hE
  obtain ⟨zu102, hE⟩ := hE
  obtain ⟨zu103, hE⟩ := hE
  obtain ⟨zu104, hE⟩ := hE
  obtain ⟨zu105, hE⟩ := hE
  obtain ⟨zu106, hE⟩ := hE
  obtain ⟨zu107, hE⟩ := hE
  obtain ⟨zu108, hE⟩ := hE
  obtain ⟨zu109, hE⟩ := hE
  obtain ⟨zu110, hE⟩ := hE
  obtain ⟨zu111, hE⟩ := hE
  obtain ⟨zu112, hE⟩ := hE
  obtain ⟨zu113, hE⟩ := hE
  obtain ⟨zu114, hE⟩ := hE
  obtain ⟨zu115, hE⟩ := hE
  obtain ⟨zu116, hE⟩ := hE
  obtain ⟨zu117, hE⟩ := hE
  obtain ⟨zu118, hE⟩ := hE
  obtain ⟨zu119, hE⟩ := hE
  obtain ⟨zu120, hE⟩ := hE
  obtain ⟨zu121, hE⟩ := hE
  obtain ⟨zu122, hE⟩ := hE
  obtain ⟨zu123, hE⟩ := hE
  obtain ⟨zu124, hE⟩ := hE
  obtain ⟨zu125, hE⟩ := hE
  obtain ⟨zu126, hE⟩ := hE
  obtain ⟨zu127, hE⟩ := hE
  obtain ⟨zu128, hE⟩ := hE
  obtain ⟨zu129, hE⟩ := hE
  obtain ⟨zu130, hE⟩ := hE
  obtain ⟨zu131, hE⟩ := hE
  obtain ⟨zu132, hE⟩ := hE
  obtain ⟨zu133, hE⟩ := hE
  obtain ⟨zu134, hE⟩ := hE
  obtain ⟨zu135, hE⟩ := hE
  obtain ⟨zu136, hE⟩ := hE
  obtain ⟨zu137, hE⟩ := hE
  obtain ⟨zu138, hE⟩ := hE
  obtain ⟨zu139, hE⟩ := hE
  obtain ⟨zu140, hE⟩ := hE
  obtain ⟨zu141, hE⟩ := hE
  obtain ⟨zu142, hE⟩ := hE
  obtain ⟨zu143, hE⟩ := hE
  obtain ⟨zu144, hE⟩ := hE
  obtain ⟨zu145, hE⟩ := hE
  obtain ⟨zu146, hE⟩ := hE
  obtain ⟨zu147, hE⟩ := hE
  obtain ⟨zu148, hE⟩ := hE
  obtain ⟨zu149, hE⟩ := hE
  obtain ⟨zu150, hE⟩ := hE
  obtain ⟨zu151, hE⟩ := hE
  obtain ⟨zu152, hE⟩ := hE
  obtain ⟨zu153, hE⟩ := hE
  obtain ⟨zu154, hE⟩ := hE
  obtain ⟨zu155, hE⟩ := hE
  obtain ⟨zu156, hE⟩ := hE
  obtain ⟨zu157, hE⟩ := hE
  obtain ⟨zu158, hE⟩ := hE
  obtain ⟨zu159, hE⟩ := hE
  obtain ⟨zu160, hE⟩ := hE
  obtain ⟨zu161, hE⟩ := hE
  obtain ⟨zu162, hE⟩ := hE
  obtain ⟨zu163, hE⟩ := hE
  obtain ⟨zu164, hE⟩ := hE
  obtain ⟨zu165, hE⟩ := hE
  obtain ⟨zu166, hE⟩ := hE
  obtain ⟨zu167, hE⟩ := hE
  obtain ⟨zu168, hE⟩ := hE
  obtain ⟨zu169, hE⟩ := hE
  obtain ⟨zu170, hE⟩ := hE
  obtain ⟨zu171, hE⟩ := hE
  obtain ⟨zu172, hE⟩ := hE
  obtain ⟨zu173, hE⟩ := hE
  obtain ⟨zu174, hE⟩ := hE
  obtain ⟨zu175, hE⟩ := hE
  obtain ⟨zu176, hE⟩ := hE
  obtain ⟨zu177, hE⟩ := hE
  obtain ⟨zu178, hE⟩ := hE
  obtain ⟨zu179, hE⟩ := hE
  obtain ⟨zu180, hE⟩ := hE
  obtain ⟨zu181, hE⟩ := hE
  obtain ⟨zu182, hE⟩ := hE
  obtain ⟨zu183, hE⟩ := hE
  obtain ⟨zu184, hE⟩ := hE
  obtain ⟨zu185, hE⟩ := hE
  obtain ⟨zu186, hE⟩ := hE
  obtain ⟨zu187, hE⟩ := hE
  obtain ⟨zu188, hE⟩ := hE
  obtain ⟨zu189, hE⟩ := hE
  obtain ⟨zu190, hE⟩ := hE
  obtain ⟨zu191, hE⟩ := hE
  obtain ⟨zu192, hE⟩ := hE
  obtain ⟨zu193, hE⟩ := hE
  obtain ⟨zu194, hE⟩ := hE
  obtain ⟨zu195, hE⟩ := hE
  obtain ⟨zu196, hE⟩ := hE
  obtain ⟨zu197, hE⟩ := hE
  obtain ⟨zu198, hE⟩ := hE
  obtain ⟨zu199, hE⟩ := hE
  obtain ⟨zu200, hE⟩ := hE
  obtain ⟨zu201, hE⟩ := hE
  obtain ⟨zu202, hE⟩ := hE
  obtain ⟨zu203, hE⟩ := hE
  obtain ⟨zu204, hE⟩ := hE
  obtain ⟨zu205, hE⟩ := hE
  obtain ⟨zu206, hE⟩ := hE
  obtain ⟨zu207, hE⟩ := hE
  obtain ⟨zu208, hE⟩ := hE
  obtain ⟨zu209, hE⟩ := hE
  obtain ⟨zu210, hE⟩ := hE
  obtain ⟨zu211, hE⟩ := hE
  obtain ⟨zu212, hE⟩ := hE
  obtain ⟨zu213, hE⟩ := hE
  obtain ⟨zu214, hE⟩ := hE
  obtain ⟨zu215, hE⟩ := hE
  obtain ⟨zu216, hE⟩ := hE
  obtain ⟨zu217, hE⟩ := hE
  obtain ⟨zu218, hE⟩ := hE
  obtain ⟨zu219, hE⟩ := hE
  obtain ⟨zu220, hE⟩ := hE
  obtain ⟨zu221, hE⟩ := hE
  obtain ⟨zu222, hE⟩ := hE
  obtain ⟨zu223, hE⟩ := hE
  obtain ⟨zu224, hE⟩ := hE
  obtain ⟨zu225, hE⟩ := hE
  obtain ⟨zu226, hE⟩ := hE
  obtain ⟨zu227, hE⟩ := hE
  obtain ⟨zu228, hE⟩ := hE
  obtain ⟨zu229, hE⟩ := hE
  obtain ⟨zu230, hE⟩ := hE
  obtain ⟨zu231, hE⟩ := hE
  obtain ⟨zu232, hE⟩ := hE
  obtain ⟨zu233, hE⟩ := hE
  obtain ⟨zu234, hE⟩ := hE
  obtain ⟨zu235, hE⟩ := hE
  obtain ⟨zu236, hE⟩ := hE
  obtain ⟨zu237, hE⟩ := hE
  obtain ⟨zu238, hE⟩ := hE
  obtain ⟨zu239, hE⟩ := hE
  obtain ⟨zu240, hE⟩ := hE
  obtain ⟨zu241, hE⟩ := hE
  obtain ⟨zu242, hE⟩ := hE
  obtain ⟨zu243, hE⟩ := hE
  obtain ⟨zu244, hE⟩ := hE
  obtain ⟨zu245, hE⟩ := hE
  obtain ⟨zu246, hE⟩ := hE
  obtain ⟨zu247, hE⟩ := hE
  obtain ⟨zu248, hE⟩ := hE
  obtain ⟨zu249, hE⟩ := hE
  obtain ⟨zu250, hE⟩ := hE
  obtain ⟨zu251, hE⟩ := hE
  obtain ⟨zu252, hE⟩ := hE
  obtain ⟨zu253, hE⟩ := hE
  obtain ⟨zu254, hE⟩ := hE
  obtain ⟨zu255, hE⟩ := hE
  obtain ⟨zu256, hE⟩ := hE
  obtain ⟨zu257, hE⟩ := hE
  obtain ⟨zu258, hE⟩ := hE
  obtain ⟨zu259, hE⟩ := hE
  obtain ⟨zu260, hE⟩ := hE
  obtain ⟨zu261, hE⟩ := hE
  obtain ⟨zu262, hE⟩ := hE
  obtain ⟨zu263, hE⟩ := hE
  obtain ⟨zu264, hE⟩ := hE
  obtain ⟨zu265, hE⟩ := hE
  obtain ⟨zu266, hE⟩ := hE
  obtain ⟨zu267, hE⟩ := hE
  obtain ⟨zu268, hE⟩ := hE
  obtain ⟨zu269, hE⟩ := hE
  obtain ⟨zu270, hE⟩ := hE
  obtain ⟨zu271, hE⟩ := hE
  obtain ⟨zu272, hE⟩ := hE
  obtain ⟨zu273, hE⟩ := hE
  obtain ⟨zu274, hE⟩ := hE
  obtain ⟨zu275, hE⟩ := hE
  obtain ⟨zu276, hE⟩ := hE
  obtain ⟨⟨_, bD9, pD9, qD9, rD9⟩, ha⟩ := hE
  subst ha
  have HD9 : Hid (JRel read ref w4 p q r i (j + 1) wD) := ⟨bD9, pD9.next (by obtain ⟨j1, hj1⟩ : ∃ j1, j = j1 + 1 := ⟨j - 1, by have := HJ0.out; omega⟩; rw [HI0.out, hj1]; exact rfl), qD9.next (gapI_eq 1000000000 (by omega) (uR read ref) (uR_bd read ref) j (by omega) i (by omega)), rD9.next (gapD_eq 1000000000 (by omega) (uR read ref) (uR_bd read ref) i (by omega) j (by omega))⟩
  have hjw : IntKind.i64.wrap ((j : Int) + 1) = ((j + 1 : Nat) : Int) := by rw [IntKind.wrap_i64]; omega
  have hj2 : j ≤ ref.size := hj
  clear bD9 pD9 qD9 rD9 HI9
  go_wp2_with fail
  refine ⟨?_, ?_⟩
  · exact ⟨j + 1, _, _, _, _, _, _, _, _, _, _, _, _, _, _, _, _, _, _, _, _, _, _, _, _, _, _, _, _, _, _, _, _, _, _, _, _, _, _, _, _, _, _, _, _, _, _, _, _, _, _, _, _, _, _, _, _, _, _, _, _, _, _, _, _, _, _, _, _, _, _, _, _, _, _, _, _, _, _, _, _, _, _, _, _, _, _, _, _, _, _, _, _, _, _, _, _, _, _, _, _, _, _, _, _, _, _, _, _, _, _, _, _, _, _, _, _, _, _, _, _, _, _, _, _, _, _, _, _, _, _, _, _, _, _, _, _, _, _, _, _, _, _, _, _, _, _, _, _, _, _, _, _, _, _, _, _, _, _, _, _, _, _, _, _, _, _, _, _, _, _, _, _, _, _, _, _, _, _, _, _, _, _, _, _, _, _, _, _, _, _, _, _, _, _, _, _, _, _, _, _, _, _, _, _, _, _, _, _, _, _, _, _, _, _, _, _, _, _, _, _, _, _, _, _, _, _, _, _, _, _, _, _, _, _, _, _, _, _, _, _, _, _, _, _, _, _, _, _, _, _, _, _, _, _, _, _, _, _, _, _, _, _, _, _, _, _, _, _, _, _, _, _, ⟨by omega, HD9.out⟩, rfl⟩
  · simp [JMu, intOf]; omega
end Go.Proofs.YtilcmkiihefkkaaDoor
