import Derived.Test.YtfeppannfcbakaaGreatDoorJ10
import Derived.Test.YtfeppannfcbakaaGreatDoorJ6
namespace Go.Proofs.YtfeppannfcbakaaGreatDoor
open Go.RowKit
set_option linter.unusedVariables false
set_option maxRecDepth 1000000
set_option maxHeartbeats 3200000
theorem rNumber7 {l : List UInt8} {w : World} (hl : l.length ≤ 140737488355328) : Calls Tryz.prog 52 #[.string ⟨l.toArray⟩] w fun e w' => e = .returned (.tuple #[.int .i64 (((numW l).getD 0 : Nat) : Int), .bool (numW l).isSome]) ∧ w' = w := rNumber_any hl
theorem rReadOp_any {s : Value} {l : Ws} {cs : List Comp} {w : World} (A : All cs w) (hR : ∀ W, All cs W → Rt W s l) (hl : l.length ≤ 140737488355328) (hs : ∀ x ∈ l, x.length ≤ 140737488355328) :
   Calls Tryz.prog 134 #[s] w (ROPost (readO l) cs) := by
 obtain ⟨ao, c, rfl⟩ := (hR w A).form
 have A0 := hid (A.addBlk [.int .i64 0, .string ⟨#[]⟩, .string ⟨#[]⟩, .int .i64 0, .int .i64 0] 24)
 by_cases h0 : l = []
 · subst h0
   have e1 : readO [] = .bad 162 := rfl
   rw [e1]
   clear A hR hl hs e1
   go_enter Tryz.func134, Tryz.ntmps134
   go_wp2
   exact ret_cell5 rfl rfl rfl rfl A0.out.1.2.1 rfl ⟨rfl, A0.out.tail⟩
 have hpos : 0 < l.length := List.length_pos_iff.2 h0
 have n0 : ((l.length : Int) == 0) = false := by simp; exact h0
 have eR : readO l = match kindW (l.getD 0 []) with
   | none => .bad 163
   | some k => if l.length < 1 + (ltN k).length then .bad 162 else match goO (ltN k) (l.drop 1) ⟨(k : Int), [], [], 0, 0⟩ with
     | none => .bad 163
     | some o => if chkR8 o ≠ 0 then .bad (chkR8 o) else ⟨o, 1 + (ltN k).length, 0⟩ := by unfold readO; rw [if_neg h0]; rfl
 obtain ⟨g, o, hg, hgl, hcell⟩ := (hR _ A0.out.tail).at (j := 0) hpos
 subst hg
 rw [Nat.add_zero] at hcell
 have HR : Hid (∀ p W, p < l.length → All cs W → W.cell? ⟨g, o + p, none⟩ = some (.string ⟨(l.getD p []).toArray⟩) ∧ g < W.heap.size) := hid (fun p W hp h => by
   obtain ⟨g', o', e', hlt, hc⟩ := (hR W h).at (j := p) hp
   simp only [Option.some.injEq, Addr.mk.injEq, and_true] at e'
   obtain ⟨rfl, rfl⟩ := e'
   exact ⟨hc, hlt⟩)
 have RN : Hid (∀ p W, p < l.length → Calls Tryz.prog 52 #[.string ⟨(l.getD p []).toArray⟩] W fun e w' => e = .returned (.tuple #[.int .i64 (((numW (l.getD p [])).getD 0 : Nat) : Int), .bool (numW (l.getD p [])).isSome]) ∧ w' = W) := hid (fun p W hp => rNumber7 (hs _ (by
   have : l.getD p [] = l[p] := by simp [List.getD, hp]
   rw [this]; exact List.getElem_mem hp)))
 have CK : Hid (∀ (ob : OpR) ds W, All ds W → Calls Tryz.prog 98 #[opV ob.k ⟨ob.nm.toArray⟩ ⟨ob.tx.toArray⟩ (ob.n : Int) (ob.m : Int)] W fun e w' => e = .returned (.int .i64 (chkR8 ob)) ∧ All ds w') := hid (fun ob ds W h => rchkO_any.mono fun e w' ⟨he, hb⟩ => ⟨he, h.later hb⟩)
 have C22 : Hid (Calls Tryz.prog 99 #[] (w.alloc (.cells #[.int .i64 0, .string ⟨#[]⟩, .string ⟨#[]⟩, .int .i64 0, .int .i64 0] 24)).drew fun e w' => ∃ ao1 c1, e = .returned (.slice ao1 9 c1) ∧ w'.cell? ⟨g, o, none⟩ = some (.string ⟨(l.getD 0 []).toArray⟩) ∧ Hid (Calls Tryz.prog 152 #[.slice ao1 9 c1, .int .i64 1, .string ⟨(l.getD 0 []).toArray⟩] w' fun e w2 => e = .returned (.int .i64 (idxI (kindW (l.getD 0 [])))) ∧ w2 = w') ∧ Hid (All (blkC w.heap.size [.int .i64 0, .string ⟨#[]⟩, .string ⟨#[]⟩, .int .i64 0, .int .i64 0] 24 :: cs) w')) := hid (by
   refine Calls.mono kinds_any ?_
   rintro e w' ⟨rfl, rfl⟩
   have A2 := A0.out.drew.alloc (.cells (txW kN).toArray 9)
   have h1 := (HR.out 0 _ hpos A2.tail).1
   rw [Nat.add_zero] at h1
   exact ⟨_, _, rfl, h1, hid (indexT_any (x := l.getD 0 []) (f := 1) (rt_kinds (w.alloc (.cells #[.int .i64 0, .string ⟨#[]⟩, .string ⟨#[]⟩, .int .i64 0, .int .i64 0] 24)).drew) (by simp [kN, wfN]) (by simp [kN, wfN])), hid A2⟩)
 rw [eR]
 clear A hR hs h0 eR hgl
 cases hk : kindW (l.getD 0 []) with
 | none =>
   simp only
   rw [hk] at C22
   have i1 : idxI none = -1 := rfl
   rw [i1] at C22
   clear hk HR RN CK i1
   generalize ByteArray.mk (l.getD 0 []).toArray = X at *
   generalize l.length = n at *
   go_enter Tryz.func134, Tryz.ntmps134
   go_wp2
   go_region_law (go_simp; first | (go_at_call 99; refine C22.out.mono ?_; rintro e w1 ⟨ao1, c1, rfl, hc1, I1, A1⟩) | (go_at_call 152; refine I1.out.mono ?_; rintro e w2 ⟨rfl, hw2⟩; subst w2))
   all_goals
     obtain ⟨y0, y1, y2, y3, y4, ylt⟩ := blk5 A1.out (.head _)
     obtain ⟨f0, f1, f2, f3, f4⟩ := blk5f A1.out
     go_wp2
     exact ret_cell5 rfl rfl rfl rfl (set5 A1.out).1.2.1 rfl ⟨rfl, (set5 A1.out).tail⟩
 | some k =>
   simp only
   rw [hk] at C22
   have i1 : idxI (some k) = (k : Int) := rfl
   rw [i1] at C22
   obtain ⟨hk1, hk9⟩ := kindW_lt hk
   have nk : ¬ (k : Int) < 0 := by omega
   generalize hA : (if l.length < 1 + (ltN k).length then RO.bad 162 else match goO (ltN k) (l.drop 1) ⟨(k : Int), [], [], 0, 0⟩ with
     | none => .bad 163
     | some o => if chkR8 o ≠ 0 then .bad (chkR8 o) else ⟨o, 1 + (ltN k).length, 0⟩) = ANS
   have eR := hid hA.symm
   clear hA hk i1
   have g1 : (l.drop 1).getD 0 [] = l.getD 1 [] := by simp [List.getD]
   have g2 : (l.drop 1).getD 1 [] = l.getD 2 [] := by simp [List.getD]
   have g3 : (l.drop 1).getD 2 [] = l.getD 3 [] := by simp [List.getD]
   have G1 := hid g1
   have G2 := hid g2
   have G3 := hid g3
   clear g1 g2 g3
   generalize ByteArray.mk (l.getD 0 []).toArray = X at *
   go_enter Tryz.func134, Tryz.ntmps134
   go_wp2
   go_region_law (go_simp; first | (go_at_call 99; refine C22.out.mono ?_; rintro e w1 ⟨ao1, c1, rfl, hc1, I1, A1⟩) | (go_at_call 152; refine I1.out.mono ?_; rintro e w2 ⟨rfl, hw2⟩; subst w2))
   all_goals
     obtain ⟨y0, y1, y2, y3, y4, ylt⟩ := blk5 A1.out (.head _)
     obtain ⟨f0, f1, f2, f3, f4⟩ := blk5f A1.out
     clear C22 I1 hc1 A0 hcell
     generalize w.heap.size = B2 at *
     obtain rfl | rfl | rfl | rfl | rfl | rfl | rfl | rfl : k = 1 ∨ k = 2 ∨ k = 3 ∨ k = 4 ∨ k = 5 ∨ k = 6 ∨ k = 7 ∨ k = 8 := by omega
     · by_cases hlen : l.length < 1 + (ltN 1).length
       · have eA : ANS = .bad 162 := by rw [eR.out, if_pos hlen]
         subst eA
         have hlen' : (l.length : Int) < 2 := by have : l.length < 2 := hlen; omega
         clear HR RN CK hlen eR
         generalize l.length = n at *
         go_wp2
         exact ret_cell5 rfl rfl rfl rfl (set5 A1.out).1.2.1 rfl ⟨rfl, (set5 A1.out).tail⟩
       · have hlw : 2 ≤ l.length := by have : ¬ l.length < 2 := hlen; omega
         have hlen' : ¬ (l.length : Int) < 2 := by omega
         have i1 : (1 : Int) < l.length := by omega
         obtain ⟨c1', hgl⟩ := HR.out 1 w1 (by omega) A1.out.tail
         clear RN HR
         have eA : ANS = if chkR8 ⟨1, (l.getD 1 []), [], 0, 0⟩ ≠ 0 then .bad (chkR8 ⟨1, (l.getD 1 []), [], 0, 0⟩) else ⟨⟨1, (l.getD 1 []), [], 0, 0⟩, 2, 0⟩ := by rw [eR.out, if_neg hlen, goO_1 (by omega), G1.out]; rfl
         have A7 : All (blkC w1.heap.size [.int .i64 1, .string ⟨(l.getD 1 []).toArray⟩, .string ⟨#[]⟩, .int .i64 0, .int .i64 0] 24 :: blkC B2 [.int .i64 0, .string ⟨#[]⟩, .string ⟨#[]⟩, .int .i64 0, .int .i64 0] 24 :: cs) (w1.alloc (.cells #[.int .i64 1, .string ⟨(l.getD 1 []).toArray⟩, .string ⟨#[]⟩, .int .i64 0, .int .i64 0] 24)) := A1.out.addBlk [.int .i64 1, .string ⟨(l.getD 1 []).toArray⟩, .string ⟨#[]⟩, .int .i64 0, .int .i64 0] 24
         have Q : Hid (Calls Tryz.prog 98 #[.agg #[.int .i64 1, .string ⟨(l.getD 1 []).toArray⟩, .string ⟨#[]⟩, .int .i64 0, .int .i64 0]] (w1.alloc (.cells #[.int .i64 1, .string ⟨(l.getD 1 []).toArray⟩, .string ⟨#[]⟩, .int .i64 0, .int .i64 0] 24)) fun e w' => e = .returned (.int .i64 (chkR8 ⟨1, (l.getD 1 []), [], 0, 0⟩)) ∧ All (blkC w1.heap.size [.int .i64 1, .string ⟨(l.getD 1 []).toArray⟩, .string ⟨#[]⟩, .int .i64 0, .int .i64 0] 24 :: blkC B2 [.int .i64 0, .string ⟨#[]⟩, .string ⟨#[]⟩, .int .i64 0, .int .i64 0] 24 :: cs) w') := hid (CK.out ⟨1, (l.getD 1 []), [], 0, 0⟩ _ _ A7)
         clear CK A7 eR hlen A1 y0 y1 y2 y3 y4 ylt f0 f1 f2 f3 f4
         by_cases hX : chkR8 ⟨1, (l.getD 1 []), [], 0, 0⟩ ≠ 0
         · rw [if_pos hX] at eA
           subst eA
           have hX' : (chkR8 ⟨1, (l.getD 1 []), [], 0, 0⟩ != 0) = true := by simpa using hX
           clear hX
           generalize chkR8 ⟨1, (l.getD 1 []), [], 0, 0⟩ = XX at *
           generalize l.length = nn at *
           generalize ByteArray.mk (l.getD 1 []).toArray = Y1 at *
           go_wp2_with (go_at_call 98; refine Q.out.mono ?_; rintro e w3 ⟨rfl, A8⟩; have K8 := hid A8.swap; clear A8; refine Hid.out ?_)
           refine hid ?_
           clear Q
           obtain ⟨y0, y1, y2, y3, y4, ylt⟩ := blk5 K8.out (.head _)
           obtain ⟨x0, x1, x2, x3, x4, xlt⟩ := blk5 K8.out (.tail _ (.head _))
           obtain ⟨f0, f1, f2, f3, f4⟩ := blk5f K8.out
           go_wp2
           exact ret_cell5 rfl rfl rfl rfl (set5 K8.out).1.2.1 rfl ⟨rfl, (set5 K8.out).tail.tail⟩
         · rw [if_neg hX] at eA
           have hX' : chkR8 ⟨1, (l.getD 1 []), [], 0, 0⟩ = 0 := Classical.byContradiction hX
           rw [hX'] at Q
           have eP : Hid (∀ en w', en = .returned (.tuple #[.agg #[.int .i64 1, .string ⟨(l.getD 1 []).toArray⟩, .string ⟨#[]⟩, .int .i64 0, .int .i64 0], .int .i64 2, .int .i64 0]) → All cs w' → ROPost ANS cs en w') := hid (fun en w' h1 h2 => by subst eA; exact ⟨h1, h2⟩)
           clear hX hX' eA
           generalize l.length = nn at *
           generalize ByteArray.mk (l.getD 1 []).toArray = Y1 at *
           go_wp2_with (go_at_call 98; refine Q.out.mono ?_; rintro e w3 ⟨rfl, A8⟩; have K8 := hid A8.swap; clear A8; refine Hid.out ?_)
           refine hid ?_
           clear Q
           obtain ⟨y0, y1, y2, y3, y4, ylt⟩ := blk5 K8.out (.head _)
           obtain ⟨x0, x1, x2, x3, x4, xlt⟩ := blk5 K8.out (.tail _ (.head _))
           obtain ⟨f0, f1, f2, f3, f4⟩ := blk5f K8.out
           have K9 := hid (set5 (v0 := .int .i64 1) (v1 := .string Y1) (v2 := .string ⟨#[]⟩) (v3 := .int .i64 0) (v4 := .int .i64 0) K8.out)
           go_wp2
           exact ret_cell5 rfl rfl rfl rfl K9.out.1.2.1 rfl (eP.out _ _ rfl K9.out.tail.tail)
     · by_cases hlen : l.length < 1 + (ltN 2).length
       · have eA : ANS = .bad 162 := by rw [eR.out, if_pos hlen]
         subst eA
         have hlen' : (l.length : Int) < 2 := by have : l.length < 2 := hlen; omega
         clear HR RN CK hlen eR
         generalize l.length = n at *
         go_wp2
         exact ret_cell5 rfl rfl rfl rfl (set5 A1.out).1.2.1 rfl ⟨rfl, (set5 A1.out).tail⟩
       · have hlw : 2 ≤ l.length := by have : ¬ l.length < 2 := hlen; omega
         have hlen' : ¬ (l.length : Int) < 2 := by omega
         have i1 : (1 : Int) < l.length := by omega
         obtain ⟨c1', hgl⟩ := HR.out 1 w1 (by omega) A1.out.tail
         clear RN HR
         have eA : ANS = if chkR8 ⟨2, (l.getD 1 []), [], 0, 0⟩ ≠ 0 then .bad (chkR8 ⟨2, (l.getD 1 []), [], 0, 0⟩) else ⟨⟨2, (l.getD 1 []), [], 0, 0⟩, 2, 0⟩ := by rw [eR.out, if_neg hlen, goO_1 (by omega), G1.out]; rfl
         have A7 : All (blkC w1.heap.size [.int .i64 2, .string ⟨(l.getD 1 []).toArray⟩, .string ⟨#[]⟩, .int .i64 0, .int .i64 0] 24 :: blkC B2 [.int .i64 0, .string ⟨#[]⟩, .string ⟨#[]⟩, .int .i64 0, .int .i64 0] 24 :: cs) (w1.alloc (.cells #[.int .i64 2, .string ⟨(l.getD 1 []).toArray⟩, .string ⟨#[]⟩, .int .i64 0, .int .i64 0] 24)) := A1.out.addBlk [.int .i64 2, .string ⟨(l.getD 1 []).toArray⟩, .string ⟨#[]⟩, .int .i64 0, .int .i64 0] 24
         have Q : Hid (Calls Tryz.prog 98 #[.agg #[.int .i64 2, .string ⟨(l.getD 1 []).toArray⟩, .string ⟨#[]⟩, .int .i64 0, .int .i64 0]] (w1.alloc (.cells #[.int .i64 2, .string ⟨(l.getD 1 []).toArray⟩, .string ⟨#[]⟩, .int .i64 0, .int .i64 0] 24)) fun e w' => e = .returned (.int .i64 (chkR8 ⟨2, (l.getD 1 []), [], 0, 0⟩)) ∧ All (blkC w1.heap.size [.int .i64 2, .string ⟨(l.getD 1 []).toArray⟩, .string ⟨#[]⟩, .int .i64 0, .int .i64 0] 24 :: blkC B2 [.int .i64 0, .string ⟨#[]⟩, .string ⟨#[]⟩, .int .i64 0, .int .i64 0] 24 :: cs) w') := hid (CK.out ⟨2, (l.getD 1 []), [], 0, 0⟩ _ _ A7)
         clear CK A7 eR hlen A1 y0 y1 y2 y3 y4 ylt f0 f1 f2 f3 f4
         by_cases hX : chkR8 ⟨2, (l.getD 1 []), [], 0, 0⟩ ≠ 0
         · rw [if_pos hX] at eA
           subst eA
           have hX' : (chkR8 ⟨2, (l.getD 1 []), [], 0, 0⟩ != 0) = true := by simpa using hX
           clear hX
           generalize chkR8 ⟨2, (l.getD 1 []), [], 0, 0⟩ = XX at *
           generalize l.length = nn at *
           generalize ByteArray.mk (l.getD 1 []).toArray = Y1 at *
           go_wp2_with (go_at_call 98; refine Q.out.mono ?_; rintro e w3 ⟨rfl, A8⟩; have K8 := hid A8.swap; clear A8; refine Hid.out ?_)
           refine hid ?_
           clear Q
           obtain ⟨y0, y1, y2, y3, y4, ylt⟩ := blk5 K8.out (.head _)
           obtain ⟨x0, x1, x2, x3, x4, xlt⟩ := blk5 K8.out (.tail _ (.head _))
           obtain ⟨f0, f1, f2, f3, f4⟩ := blk5f K8.out
           go_wp2
           exact ret_cell5 rfl rfl rfl rfl (set5 K8.out).1.2.1 rfl ⟨rfl, (set5 K8.out).tail.tail⟩
         · rw [if_neg hX] at eA
           have hX' : chkR8 ⟨2, (l.getD 1 []), [], 0, 0⟩ = 0 := Classical.byContradiction hX
           rw [hX'] at Q
           have eP : Hid (∀ en w', en = .returned (.tuple #[.agg #[.int .i64 2, .string ⟨(l.getD 1 []).toArray⟩, .string ⟨#[]⟩, .int .i64 0, .int .i64 0], .int .i64 2, .int .i64 0]) → All cs w' → ROPost ANS cs en w') := hid (fun en w' h1 h2 => by subst eA; exact ⟨h1, h2⟩)
           clear hX hX' eA
           generalize l.length = nn at *
           generalize ByteArray.mk (l.getD 1 []).toArray = Y1 at *
           go_wp2_with (go_at_call 98; refine Q.out.mono ?_; rintro e w3 ⟨rfl, A8⟩; have K8 := hid A8.swap; clear A8; refine Hid.out ?_)
           refine hid ?_
           clear Q
           obtain ⟨y0, y1, y2, y3, y4, ylt⟩ := blk5 K8.out (.head _)
           obtain ⟨x0, x1, x2, x3, x4, xlt⟩ := blk5 K8.out (.tail _ (.head _))
           obtain ⟨f0, f1, f2, f3, f4⟩ := blk5f K8.out
           have K9 := hid (set5 (v0 := .int .i64 2) (v1 := .string Y1) (v2 := .string ⟨#[]⟩) (v3 := .int .i64 0) (v4 := .int .i64 0) K8.out)
           go_wp2
           exact ret_cell5 rfl rfl rfl rfl K9.out.1.2.1 rfl (eP.out _ _ rfl K9.out.tail.tail)
     · by_cases hlen : l.length < 1 + (ltN 3).length
       · have eA : ANS = .bad 162 := by rw [eR.out, if_pos hlen]
         subst eA
         have hlen' : (l.length : Int) < 3 := by have : l.length < 3 := hlen; omega
         clear HR RN CK hlen eR
         generalize l.length = n at *
         go_wp2
         exact ret_cell5 rfl rfl rfl rfl (set5 A1.out).1.2.1 rfl ⟨rfl, (set5 A1.out).tail⟩
       · have hlw : 3 ≤ l.length := by have : ¬ l.length < 3 := hlen; omega
         have hlen' : ¬ (l.length : Int) < 3 := by omega
         have i1 : (1 : Int) < l.length := by omega
         obtain ⟨c1', hgl⟩ := HR.out 1 w1 (by omega) A1.out.tail
         have i2 : (2 : Int) < l.length := by omega
         obtain ⟨c2', hgl⟩ := HR.out 2 w1 (by omega) A1.out.tail
         clear RN HR
         have eA : ANS = if chkR8 ⟨3, (l.getD 1 []), (l.getD 2 []), 0, 0⟩ ≠ 0 then .bad (chkR8 ⟨3, (l.getD 1 []), (l.getD 2 []), 0, 0⟩) else ⟨⟨3, (l.getD 1 []), (l.getD 2 []), 0, 0⟩, 3, 0⟩ := by rw [eR.out, if_neg hlen, goO_3 (by omega), G1.out, G2.out]; rfl
         have A7 : All (blkC w1.heap.size [.int .i64 3, .string ⟨(l.getD 1 []).toArray⟩, .string ⟨(l.getD 2 []).toArray⟩, .int .i64 0, .int .i64 0] 24 :: blkC B2 [.int .i64 0, .string ⟨#[]⟩, .string ⟨#[]⟩, .int .i64 0, .int .i64 0] 24 :: cs) (w1.alloc (.cells #[.int .i64 3, .string ⟨(l.getD 1 []).toArray⟩, .string ⟨(l.getD 2 []).toArray⟩, .int .i64 0, .int .i64 0] 24)) := A1.out.addBlk [.int .i64 3, .string ⟨(l.getD 1 []).toArray⟩, .string ⟨(l.getD 2 []).toArray⟩, .int .i64 0, .int .i64 0] 24
         have Q : Hid (Calls Tryz.prog 98 #[.agg #[.int .i64 3, .string ⟨(l.getD 1 []).toArray⟩, .string ⟨(l.getD 2 []).toArray⟩, .int .i64 0, .int .i64 0]] (w1.alloc (.cells #[.int .i64 3, .string ⟨(l.getD 1 []).toArray⟩, .string ⟨(l.getD 2 []).toArray⟩, .int .i64 0, .int .i64 0] 24)) fun e w' => e = .returned (.int .i64 (chkR8 ⟨3, (l.getD 1 []), (l.getD 2 []), 0, 0⟩)) ∧ All (blkC w1.heap.size [.int .i64 3, .string ⟨(l.getD 1 []).toArray⟩, .string ⟨(l.getD 2 []).toArray⟩, .int .i64 0, .int .i64 0] 24 :: blkC B2 [.int .i64 0, .string ⟨#[]⟩, .string ⟨#[]⟩, .int .i64 0, .int .i64 0] 24 :: cs) w') := hid (CK.out ⟨3, (l.getD 1 []), (l.getD 2 []), 0, 0⟩ _ _ A7)
         clear CK A7 eR hlen A1 y0 y1 y2 y3 y4 ylt f0 f1 f2 f3 f4
         by_cases hX : chkR8 ⟨3, (l.getD 1 []), (l.getD 2 []), 0, 0⟩ ≠ 0
         · rw [if_pos hX] at eA
           subst eA
           have hX' : (chkR8 ⟨3, (l.getD 1 []), (l.getD 2 []), 0, 0⟩ != 0) = true := by simpa using hX
           clear hX
           generalize chkR8 ⟨3, (l.getD 1 []), (l.getD 2 []), 0, 0⟩ = XX at *
           generalize l.length = nn at *
           generalize ByteArray.mk (l.getD 1 []).toArray = Y1 at *
           generalize ByteArray.mk (l.getD 2 []).toArray = Y2 at *
           go_wp2_with (go_at_call 98; refine Q.out.mono ?_; rintro e w3 ⟨rfl, A8⟩; have K8 := hid A8.swap; clear A8; refine Hid.out ?_)
           refine hid ?_
           clear Q
           obtain ⟨y0, y1, y2, y3, y4, ylt⟩ := blk5 K8.out (.head _)
           obtain ⟨x0, x1, x2, x3, x4, xlt⟩ := blk5 K8.out (.tail _ (.head _))
           obtain ⟨f0, f1, f2, f3, f4⟩ := blk5f K8.out
           go_wp2
           exact ret_cell5 rfl rfl rfl rfl (set5 K8.out).1.2.1 rfl ⟨rfl, (set5 K8.out).tail.tail⟩
         · rw [if_neg hX] at eA
           have hX' : chkR8 ⟨3, (l.getD 1 []), (l.getD 2 []), 0, 0⟩ = 0 := Classical.byContradiction hX
           rw [hX'] at Q
           have eP : Hid (∀ en w', en = .returned (.tuple #[.agg #[.int .i64 3, .string ⟨(l.getD 1 []).toArray⟩, .string ⟨(l.getD 2 []).toArray⟩, .int .i64 0, .int .i64 0], .int .i64 3, .int .i64 0]) → All cs w' → ROPost ANS cs en w') := hid (fun en w' h1 h2 => by subst eA; exact ⟨h1, h2⟩)
           clear hX hX' eA
           generalize l.length = nn at *
           generalize ByteArray.mk (l.getD 1 []).toArray = Y1 at *
           generalize ByteArray.mk (l.getD 2 []).toArray = Y2 at *
           go_wp2_with (go_at_call 98; refine Q.out.mono ?_; rintro e w3 ⟨rfl, A8⟩; have K8 := hid A8.swap; clear A8; refine Hid.out ?_)
           refine hid ?_
           clear Q
           obtain ⟨y0, y1, y2, y3, y4, ylt⟩ := blk5 K8.out (.head _)
           obtain ⟨x0, x1, x2, x3, x4, xlt⟩ := blk5 K8.out (.tail _ (.head _))
           obtain ⟨f0, f1, f2, f3, f4⟩ := blk5f K8.out
           have K9 := hid (set5 (v0 := .int .i64 3) (v1 := .string Y1) (v2 := .string Y2) (v3 := .int .i64 0) (v4 := .int .i64 0) K8.out)
           go_wp2
           exact ret_cell5 rfl rfl rfl rfl K9.out.1.2.1 rfl (eP.out _ _ rfl K9.out.tail.tail)
     · by_cases hlen : l.length < 1 + (ltN 4).length
       · have eA : ANS = .bad 162 := by rw [eR.out, if_pos hlen]
         subst eA
         have hlen' : (l.length : Int) < 3 := by have : l.length < 3 := hlen; omega
         clear HR RN CK hlen eR
         generalize l.length = n at *
         go_wp2
         exact ret_cell5 rfl rfl rfl rfl (set5 A1.out).1.2.1 rfl ⟨rfl, (set5 A1.out).tail⟩
       · have hlw : 3 ≤ l.length := by have : ¬ l.length < 3 := hlen; omega
         have hlen' : ¬ (l.length : Int) < 3 := by omega
         have i1 : (1 : Int) < l.length := by omega
         obtain ⟨c1', hgl⟩ := HR.out 1 w1 (by omega) A1.out.tail
         have i2 : (2 : Int) < l.length := by omega
         obtain ⟨c2', hgl⟩ := HR.out 2 w1 (by omega) A1.out.tail
         have N2 := hid (fun W => RN.out 2 W (by omega))
         clear RN HR
         by_cases s2 : (numW (l.getD 2 [])).isSome = true
         · skip
           have eA : ANS = if chkR8 ⟨4, (l.getD 1 []), [], ((numW (l.getD 2 [])).getD 0), 0⟩ ≠ 0 then .bad (chkR8 ⟨4, (l.getD 1 []), [], ((numW (l.getD 2 [])).getD 0), 0⟩) else ⟨⟨4, (l.getD 1 []), [], ((numW (l.getD 2 [])).getD 0), 0⟩, 3, 0⟩ := by rw [eR.out, if_neg hlen, goO_4, G1.out, G2.out, if_pos s2]; rfl
           have A7 : All (blkC w1.heap.size [.int .i64 4, .string ⟨(l.getD 1 []).toArray⟩, .string ⟨#[]⟩, .int .i64 (((numW (l.getD 2 [])).getD 0) : Int), .int .i64 0] 24 :: blkC B2 [.int .i64 0, .string ⟨#[]⟩, .string ⟨#[]⟩, .int .i64 0, .int .i64 0] 24 :: cs) (w1.alloc (.cells #[.int .i64 4, .string ⟨(l.getD 1 []).toArray⟩, .string ⟨#[]⟩, .int .i64 (((numW (l.getD 2 [])).getD 0) : Int), .int .i64 0] 24)) := A1.out.addBlk [.int .i64 4, .string ⟨(l.getD 1 []).toArray⟩, .string ⟨#[]⟩, .int .i64 (((numW (l.getD 2 [])).getD 0) : Int), .int .i64 0] 24
           have Q : Hid (Calls Tryz.prog 98 #[.agg #[.int .i64 4, .string ⟨(l.getD 1 []).toArray⟩, .string ⟨#[]⟩, .int .i64 (((numW (l.getD 2 [])).getD 0) : Int), .int .i64 0]] (w1.alloc (.cells #[.int .i64 4, .string ⟨(l.getD 1 []).toArray⟩, .string ⟨#[]⟩, .int .i64 (((numW (l.getD 2 [])).getD 0) : Int), .int .i64 0] 24)) fun e w' => e = .returned (.int .i64 (chkR8 ⟨4, (l.getD 1 []), [], ((numW (l.getD 2 [])).getD 0), 0⟩)) ∧ All (blkC w1.heap.size [.int .i64 4, .string ⟨(l.getD 1 []).toArray⟩, .string ⟨#[]⟩, .int .i64 (((numW (l.getD 2 [])).getD 0) : Int), .int .i64 0] 24 :: blkC B2 [.int .i64 0, .string ⟨#[]⟩, .string ⟨#[]⟩, .int .i64 0, .int .i64 0] 24 :: cs) w') := hid (CK.out ⟨4, (l.getD 1 []), [], ((numW (l.getD 2 [])).getD 0), 0⟩ _ _ A7)
           clear CK A7 eR hlen A1 y0 y1 y2 y3 y4 ylt f0 f1 f2 f3 f4
           rw [s2] at N2
           clear s2
           by_cases hX : chkR8 ⟨4, (l.getD 1 []), [], ((numW (l.getD 2 [])).getD 0), 0⟩ ≠ 0
           · rw [if_pos hX] at eA
             subst eA
             have hX' : (chkR8 ⟨4, (l.getD 1 []), [], ((numW (l.getD 2 [])).getD 0), 0⟩ != 0) = true := by simpa using hX
             clear hX
             generalize chkR8 ⟨4, (l.getD 1 []), [], ((numW (l.getD 2 [])).getD 0), 0⟩ = XX at *
             generalize l.length = nn at *
             generalize ByteArray.mk (l.getD 1 []).toArray = Y1 at *
             generalize ByteArray.mk (l.getD 2 []).toArray = Y2 at *
             generalize (numW (l.getD 2 [])).getD 0 = Z2 at *
             go_wp2_with (go_at_call 52; refine (N2.out _).mono ?_; rintro e wn ⟨rfl, hwn⟩; subst wn; refine Hid.out ?_)
             refine hid ?_
             go_wp2_with (go_at_call 98; refine Q.out.mono ?_; rintro e w3 ⟨rfl, A8⟩; have K8 := hid A8.swap; clear A8; refine Hid.out ?_)
             refine hid ?_
             clear Q
             obtain ⟨y0, y1, y2, y3, y4, ylt⟩ := blk5 K8.out (.head _)
             obtain ⟨x0, x1, x2, x3, x4, xlt⟩ := blk5 K8.out (.tail _ (.head _))
             obtain ⟨f0, f1, f2, f3, f4⟩ := blk5f K8.out
             go_wp2
             exact ret_cell5 rfl rfl rfl rfl (set5 K8.out).1.2.1 rfl ⟨rfl, (set5 K8.out).tail.tail⟩
           · rw [if_neg hX] at eA
             have hX' : chkR8 ⟨4, (l.getD 1 []), [], ((numW (l.getD 2 [])).getD 0), 0⟩ = 0 := Classical.byContradiction hX
             rw [hX'] at Q
             have eP : Hid (∀ en w', en = .returned (.tuple #[.agg #[.int .i64 4, .string ⟨(l.getD 1 []).toArray⟩, .string ⟨#[]⟩, .int .i64 (((numW (l.getD 2 [])).getD 0) : Int), .int .i64 0], .int .i64 3, .int .i64 0]) → All cs w' → ROPost ANS cs en w') := hid (fun en w' h1 h2 => by subst eA; exact ⟨h1, h2⟩)
             clear hX hX' eA
             generalize l.length = nn at *
             generalize ByteArray.mk (l.getD 1 []).toArray = Y1 at *
             generalize ByteArray.mk (l.getD 2 []).toArray = Y2 at *
             generalize (numW (l.getD 2 [])).getD 0 = Z2 at *
             go_wp2_with (go_at_call 52; refine (N2.out _).mono ?_; rintro e wn ⟨rfl, hwn⟩; subst wn; refine Hid.out ?_)
             refine hid ?_
             go_wp2_with (go_at_call 98; refine Q.out.mono ?_; rintro e w3 ⟨rfl, A8⟩; have K8 := hid A8.swap; clear A8; refine Hid.out ?_)
             refine hid ?_
             clear Q
             obtain ⟨y0, y1, y2, y3, y4, ylt⟩ := blk5 K8.out (.head _)
             obtain ⟨x0, x1, x2, x3, x4, xlt⟩ := blk5 K8.out (.tail _ (.head _))
             obtain ⟨f0, f1, f2, f3, f4⟩ := blk5f K8.out
             have K9 := hid (set5 (v0 := .int .i64 4) (v1 := .string Y1) (v2 := .string ⟨#[]⟩) (v3 := .int .i64 (Z2 : Int)) (v4 := .int .i64 0) K8.out)
             go_wp2
             exact ret_cell5 rfl rfl rfl rfl K9.out.1.2.1 rfl (eP.out _ _ rfl K9.out.tail.tail)
         · have eA : ANS = .bad 163 := by rw [eR.out, if_neg hlen, goO_4, G1.out, G2.out, if_neg s2]
           have s2' : (numW (l.getD 2 [])).isSome = false := by simpa using s2
           rw [s2'] at N2
           have K8 := hid (A1.out.addBlk [.int .i64 4, .string ⟨(l.getD 1 []).toArray⟩, .string ⟨#[]⟩, .int .i64 0, .int .i64 0] 24).swap
           clear CK eR hlen A1 y0 y1 y2 y3 y4 ylt f0 f1 f2 f3 f4 s2 s2'
           subst eA
           generalize l.length = nn at *
           generalize ByteArray.mk (l.getD 1 []).toArray = Y1 at *
           generalize ByteArray.mk (l.getD 2 []).toArray = Y2 at *
           generalize (numW (l.getD 2 [])).getD 0 = Z2 at *
           obtain ⟨y0, y1, y2, y3, y4, ylt⟩ := blk5 K8.out (.head _)
           obtain ⟨f0, f1, f2, f3, f4⟩ := blk5f K8.out
           go_wp2_with (go_at_call 52; refine (N2.out _).mono ?_; rintro e wn ⟨rfl, hwn⟩; subst wn; refine Hid.out ?_)
           refine hid ?_
           go_wp2
           exact ret_cell5 rfl rfl rfl rfl (set5 K8.out).1.2.1 rfl ⟨rfl, (set5 K8.out).tail.tail⟩
     · by_cases hlen : l.length < 1 + (ltN 5).length
       · have eA : ANS = .bad 162 := by rw [eR.out, if_pos hlen]
         subst eA
         have hlen' : (l.length : Int) < 3 := by have : l.length < 3 := hlen; omega
         clear HR RN CK hlen eR
         generalize l.length = n at *
         go_wp2
         exact ret_cell5 rfl rfl rfl rfl (set5 A1.out).1.2.1 rfl ⟨rfl, (set5 A1.out).tail⟩
       · have hlw : 3 ≤ l.length := by have : ¬ l.length < 3 := hlen; omega
         have hlen' : ¬ (l.length : Int) < 3 := by omega
         have i1 : (1 : Int) < l.length := by omega
         obtain ⟨c1', hgl⟩ := HR.out 1 w1 (by omega) A1.out.tail
         have i2 : (2 : Int) < l.length := by omega
         obtain ⟨c2', hgl⟩ := HR.out 2 w1 (by omega) A1.out.tail
         clear RN HR
         have eA : ANS = if chkR8 ⟨5, (l.getD 1 []), (l.getD 2 []), 0, 0⟩ ≠ 0 then .bad (chkR8 ⟨5, (l.getD 1 []), (l.getD 2 []), 0, 0⟩) else ⟨⟨5, (l.getD 1 []), (l.getD 2 []), 0, 0⟩, 3, 0⟩ := by rw [eR.out, if_neg hlen, goO_3 (by omega), G1.out, G2.out]; rfl
         have A7 : All (blkC w1.heap.size [.int .i64 5, .string ⟨(l.getD 1 []).toArray⟩, .string ⟨(l.getD 2 []).toArray⟩, .int .i64 0, .int .i64 0] 24 :: blkC B2 [.int .i64 0, .string ⟨#[]⟩, .string ⟨#[]⟩, .int .i64 0, .int .i64 0] 24 :: cs) (w1.alloc (.cells #[.int .i64 5, .string ⟨(l.getD 1 []).toArray⟩, .string ⟨(l.getD 2 []).toArray⟩, .int .i64 0, .int .i64 0] 24)) := A1.out.addBlk [.int .i64 5, .string ⟨(l.getD 1 []).toArray⟩, .string ⟨(l.getD 2 []).toArray⟩, .int .i64 0, .int .i64 0] 24
         have Q : Hid (Calls Tryz.prog 98 #[.agg #[.int .i64 5, .string ⟨(l.getD 1 []).toArray⟩, .string ⟨(l.getD 2 []).toArray⟩, .int .i64 0, .int .i64 0]] (w1.alloc (.cells #[.int .i64 5, .string ⟨(l.getD 1 []).toArray⟩, .string ⟨(l.getD 2 []).toArray⟩, .int .i64 0, .int .i64 0] 24)) fun e w' => e = .returned (.int .i64 (chkR8 ⟨5, (l.getD 1 []), (l.getD 2 []), 0, 0⟩)) ∧ All (blkC w1.heap.size [.int .i64 5, .string ⟨(l.getD 1 []).toArray⟩, .string ⟨(l.getD 2 []).toArray⟩, .int .i64 0, .int .i64 0] 24 :: blkC B2 [.int .i64 0, .string ⟨#[]⟩, .string ⟨#[]⟩, .int .i64 0, .int .i64 0] 24 :: cs) w') := hid (CK.out ⟨5, (l.getD 1 []), (l.getD 2 []), 0, 0⟩ _ _ A7)
         clear CK A7 eR hlen A1 y0 y1 y2 y3 y4 ylt f0 f1 f2 f3 f4
         by_cases hX : chkR8 ⟨5, (l.getD 1 []), (l.getD 2 []), 0, 0⟩ ≠ 0
         · rw [if_pos hX] at eA
           subst eA
           have hX' : (chkR8 ⟨5, (l.getD 1 []), (l.getD 2 []), 0, 0⟩ != 0) = true := by simpa using hX
           clear hX
           generalize chkR8 ⟨5, (l.getD 1 []), (l.getD 2 []), 0, 0⟩ = XX at *
           generalize l.length = nn at *
           generalize ByteArray.mk (l.getD 1 []).toArray = Y1 at *
           generalize ByteArray.mk (l.getD 2 []).toArray = Y2 at *
           go_wp2_with (go_at_call 98; refine Q.out.mono ?_; rintro e w3 ⟨rfl, A8⟩; have K8 := hid A8.swap; clear A8; refine Hid.out ?_)
           refine hid ?_
           clear Q
           obtain ⟨y0, y1, y2, y3, y4, ylt⟩ := blk5 K8.out (.head _)
           obtain ⟨x0, x1, x2, x3, x4, xlt⟩ := blk5 K8.out (.tail _ (.head _))
           obtain ⟨f0, f1, f2, f3, f4⟩ := blk5f K8.out
           go_wp2
           exact ret_cell5 rfl rfl rfl rfl (set5 K8.out).1.2.1 rfl ⟨rfl, (set5 K8.out).tail.tail⟩
         · rw [if_neg hX] at eA
           have hX' : chkR8 ⟨5, (l.getD 1 []), (l.getD 2 []), 0, 0⟩ = 0 := Classical.byContradiction hX
           rw [hX'] at Q
           have eP : Hid (∀ en w', en = .returned (.tuple #[.agg #[.int .i64 5, .string ⟨(l.getD 1 []).toArray⟩, .string ⟨(l.getD 2 []).toArray⟩, .int .i64 0, .int .i64 0], .int .i64 3, .int .i64 0]) → All cs w' → ROPost ANS cs en w') := hid (fun en w' h1 h2 => by subst eA; exact ⟨h1, h2⟩)
           clear hX hX' eA
           generalize l.length = nn at *
           generalize ByteArray.mk (l.getD 1 []).toArray = Y1 at *
           generalize ByteArray.mk (l.getD 2 []).toArray = Y2 at *
           go_wp2_with (go_at_call 98; refine Q.out.mono ?_; rintro e w3 ⟨rfl, A8⟩; have K8 := hid A8.swap; clear A8; refine Hid.out ?_)
           refine hid ?_
           clear Q
           obtain ⟨y0, y1, y2, y3, y4, ylt⟩ := blk5 K8.out (.head _)
           obtain ⟨x0, x1, x2, x3, x4, xlt⟩ := blk5 K8.out (.tail _ (.head _))
           obtain ⟨f0, f1, f2, f3, f4⟩ := blk5f K8.out
           have K9 := hid (set5 (v0 := .int .i64 5) (v1 := .string Y1) (v2 := .string Y2) (v3 := .int .i64 0) (v4 := .int .i64 0) K8.out)
           go_wp2
           exact ret_cell5 rfl rfl rfl rfl K9.out.1.2.1 rfl (eP.out _ _ rfl K9.out.tail.tail)
     · by_cases hlen : l.length < 1 + (ltN 6).length
       · have eA : ANS = .bad 162 := by rw [eR.out, if_pos hlen]
         subst eA
         have hlen' : (l.length : Int) < 4 := by have : l.length < 4 := hlen; omega
         clear HR RN CK hlen eR
         generalize l.length = n at *
         go_wp2
         exact ret_cell5 rfl rfl rfl rfl (set5 A1.out).1.2.1 rfl ⟨rfl, (set5 A1.out).tail⟩
       · have hlw : 4 ≤ l.length := by have : ¬ l.length < 4 := hlen; omega
         have hlen' : ¬ (l.length : Int) < 4 := by omega
         have i1 : (1 : Int) < l.length := by omega
         obtain ⟨c1', hgl⟩ := HR.out 1 w1 (by omega) A1.out.tail
         have i2 : (2 : Int) < l.length := by omega
         obtain ⟨c2', hgl⟩ := HR.out 2 w1 (by omega) A1.out.tail
         have i3 : (3 : Int) < l.length := by omega
         obtain ⟨c3', hgl⟩ := HR.out 3 w1 (by omega) A1.out.tail
         have N2 := hid (fun W => RN.out 2 W (by omega))
         have N3 := hid (fun W => RN.out 3 W (by omega))
         clear RN HR
         by_cases s2 : (numW (l.getD 2 [])).isSome = true
         · skip
           by_cases s3 : (numW (l.getD 3 [])).isSome = true
           · skip
             have eA : ANS = if chkR8 ⟨6, (l.getD 1 []), [], ((numW (l.getD 2 [])).getD 0), ((numW (l.getD 3 [])).getD 0)⟩ ≠ 0 then .bad (chkR8 ⟨6, (l.getD 1 []), [], ((numW (l.getD 2 [])).getD 0), ((numW (l.getD 3 [])).getD 0)⟩) else ⟨⟨6, (l.getD 1 []), [], ((numW (l.getD 2 [])).getD 0), ((numW (l.getD 3 [])).getD 0)⟩, 4, 0⟩ := by rw [eR.out, if_neg hlen, goO_6, G1.out, G2.out, G3.out, if_pos s2, if_pos s3]; rfl
             have A7 : All (blkC w1.heap.size [.int .i64 6, .string ⟨(l.getD 1 []).toArray⟩, .string ⟨#[]⟩, .int .i64 (((numW (l.getD 2 [])).getD 0) : Int), .int .i64 (((numW (l.getD 3 [])).getD 0) : Int)] 24 :: blkC B2 [.int .i64 0, .string ⟨#[]⟩, .string ⟨#[]⟩, .int .i64 0, .int .i64 0] 24 :: cs) (w1.alloc (.cells #[.int .i64 6, .string ⟨(l.getD 1 []).toArray⟩, .string ⟨#[]⟩, .int .i64 (((numW (l.getD 2 [])).getD 0) : Int), .int .i64 (((numW (l.getD 3 [])).getD 0) : Int)] 24)) := A1.out.addBlk [.int .i64 6, .string ⟨(l.getD 1 []).toArray⟩, .string ⟨#[]⟩, .int .i64 (((numW (l.getD 2 [])).getD 0) : Int), .int .i64 (((numW (l.getD 3 [])).getD 0) : Int)] 24
             have Q : Hid (Calls Tryz.prog 98 #[.agg #[.int .i64 6, .string ⟨(l.getD 1 []).toArray⟩, .string ⟨#[]⟩, .int .i64 (((numW (l.getD 2 [])).getD 0) : Int), .int .i64 (((numW (l.getD 3 [])).getD 0) : Int)]] (w1.alloc (.cells #[.int .i64 6, .string ⟨(l.getD 1 []).toArray⟩, .string ⟨#[]⟩, .int .i64 (((numW (l.getD 2 [])).getD 0) : Int), .int .i64 (((numW (l.getD 3 [])).getD 0) : Int)] 24)) fun e w' => e = .returned (.int .i64 (chkR8 ⟨6, (l.getD 1 []), [], ((numW (l.getD 2 [])).getD 0), ((numW (l.getD 3 [])).getD 0)⟩)) ∧ All (blkC w1.heap.size [.int .i64 6, .string ⟨(l.getD 1 []).toArray⟩, .string ⟨#[]⟩, .int .i64 (((numW (l.getD 2 [])).getD 0) : Int), .int .i64 (((numW (l.getD 3 [])).getD 0) : Int)] 24 :: blkC B2 [.int .i64 0, .string ⟨#[]⟩, .string ⟨#[]⟩, .int .i64 0, .int .i64 0] 24 :: cs) w') := hid (CK.out ⟨6, (l.getD 1 []), [], ((numW (l.getD 2 [])).getD 0), ((numW (l.getD 3 [])).getD 0)⟩ _ _ A7)
             clear CK A7 eR hlen A1 y0 y1 y2 y3 y4 ylt f0 f1 f2 f3 f4
             rw [s2] at N2
             rw [s3] at N3
             clear s2 s3
             by_cases hX : chkR8 ⟨6, (l.getD 1 []), [], ((numW (l.getD 2 [])).getD 0), ((numW (l.getD 3 [])).getD 0)⟩ ≠ 0
             · rw [if_pos hX] at eA
               subst eA
               have hX' : (chkR8 ⟨6, (l.getD 1 []), [], ((numW (l.getD 2 [])).getD 0), ((numW (l.getD 3 [])).getD 0)⟩ != 0) = true := by simpa using hX
               clear hX
               generalize chkR8 ⟨6, (l.getD 1 []), [], ((numW (l.getD 2 [])).getD 0), ((numW (l.getD 3 [])).getD 0)⟩ = XX at *
               generalize l.length = nn at *
               generalize ByteArray.mk (l.getD 1 []).toArray = Y1 at *
               generalize ByteArray.mk (l.getD 2 []).toArray = Y2 at *
               generalize ByteArray.mk (l.getD 3 []).toArray = Y3 at *
               generalize (numW (l.getD 2 [])).getD 0 = Z2 at *
               generalize (numW (l.getD 3 [])).getD 0 = Z3 at *
               go_wp2_with (go_at_call 52; refine (N2.out _).mono ?_; rintro e wn ⟨rfl, hwn⟩; subst wn; refine Hid.out ?_)
               refine hid ?_
               go_wp2_with (go_at_call 52; refine (N3.out _).mono ?_; rintro e wn ⟨rfl, hwn⟩; subst wn; refine Hid.out ?_)
               refine hid ?_
               go_wp2_with (go_at_call 98; refine Q.out.mono ?_; rintro e w3 ⟨rfl, A8⟩; have K8 := hid A8.swap; clear A8; refine Hid.out ?_)
               refine hid ?_
               clear Q
               obtain ⟨y0, y1, y2, y3, y4, ylt⟩ := blk5 K8.out (.head _)
               obtain ⟨x0, x1, x2, x3, x4, xlt⟩ := blk5 K8.out (.tail _ (.head _))
               obtain ⟨f0, f1, f2, f3, f4⟩ := blk5f K8.out
               go_wp2
               exact ret_cell5 rfl rfl rfl rfl (set5 K8.out).1.2.1 rfl ⟨rfl, (set5 K8.out).tail.tail⟩
             · rw [if_neg hX] at eA
               have hX' : chkR8 ⟨6, (l.getD 1 []), [], ((numW (l.getD 2 [])).getD 0), ((numW (l.getD 3 [])).getD 0)⟩ = 0 := Classical.byContradiction hX
               rw [hX'] at Q
               have eP : Hid (∀ en w', en = .returned (.tuple #[.agg #[.int .i64 6, .string ⟨(l.getD 1 []).toArray⟩, .string ⟨#[]⟩, .int .i64 (((numW (l.getD 2 [])).getD 0) : Int), .int .i64 (((numW (l.getD 3 [])).getD 0) : Int)], .int .i64 4, .int .i64 0]) → All cs w' → ROPost ANS cs en w') := hid (fun en w' h1 h2 => by subst eA; exact ⟨h1, h2⟩)
               clear hX hX' eA
               generalize l.length = nn at *
               generalize ByteArray.mk (l.getD 1 []).toArray = Y1 at *
               generalize ByteArray.mk (l.getD 2 []).toArray = Y2 at *
               generalize ByteArray.mk (l.getD 3 []).toArray = Y3 at *
               generalize (numW (l.getD 2 [])).getD 0 = Z2 at *
               generalize (numW (l.getD 3 [])).getD 0 = Z3 at *
               go_wp2_with (go_at_call 52; refine (N2.out _).mono ?_; rintro e wn ⟨rfl, hwn⟩; subst wn; refine Hid.out ?_)
               refine hid ?_
               go_wp2_with (go_at_call 52; refine (N3.out _).mono ?_; rintro e wn ⟨rfl, hwn⟩; subst wn; refine Hid.out ?_)
               refine hid ?_
               go_wp2_with (go_at_call 98; refine Q.out.mono ?_; rintro e w3 ⟨rfl, A8⟩; have K8 := hid A8.swap; clear A8; refine Hid.out ?_)
               refine hid ?_
               clear Q
               obtain ⟨y0, y1, y2, y3, y4, ylt⟩ := blk5 K8.out (.head _)
               obtain ⟨x0, x1, x2, x3, x4, xlt⟩ := blk5 K8.out (.tail _ (.head _))
               obtain ⟨f0, f1, f2, f3, f4⟩ := blk5f K8.out
               have K9 := hid (set5 (v0 := .int .i64 6) (v1 := .string Y1) (v2 := .string ⟨#[]⟩) (v3 := .int .i64 (Z2 : Int)) (v4 := .int .i64 (Z3 : Int)) K8.out)
               go_wp2
               exact ret_cell5 rfl rfl rfl rfl K9.out.1.2.1 rfl (eP.out _ _ rfl K9.out.tail.tail)
           · have eA : ANS = .bad 163 := by rw [eR.out, if_neg hlen, goO_6, G1.out, G2.out, G3.out, if_pos s2, if_neg s3]
             have s3' : (numW (l.getD 3 [])).isSome = false := by simpa using s3
             rw [s3'] at N3
             rw [s2] at N2
             have K8 := hid (A1.out.addBlk [.int .i64 6, .string ⟨(l.getD 1 []).toArray⟩, .string ⟨#[]⟩, .int .i64 (((numW (l.getD 2 [])).getD 0 : Nat) : Int), .int .i64 0] 24).swap
             clear CK eR hlen A1 y0 y1 y2 y3 y4 ylt f0 f1 f2 f3 f4 s2 s3 s3'
             subst eA
             generalize l.length = nn at *
             generalize ByteArray.mk (l.getD 1 []).toArray = Y1 at *
             generalize ByteArray.mk (l.getD 2 []).toArray = Y2 at *
             generalize ByteArray.mk (l.getD 3 []).toArray = Y3 at *
             generalize (numW (l.getD 2 [])).getD 0 = Z2 at *
             generalize (numW (l.getD 3 [])).getD 0 = Z3 at *
             obtain ⟨y0, y1, y2, y3, y4, ylt⟩ := blk5 K8.out (.head _)
             obtain ⟨f0, f1, f2, f3, f4⟩ := blk5f K8.out
             go_wp2_with (go_at_call 52; refine (N2.out _).mono ?_; rintro e wn ⟨rfl, hwn⟩; subst wn; refine Hid.out ?_)
             refine hid ?_
             go_wp2_with (go_at_call 52; refine (N3.out _).mono ?_; rintro e wn ⟨rfl, hwn⟩; subst wn; refine Hid.out ?_)
             refine hid ?_
             go_wp2
             exact ret_cell5 rfl rfl rfl rfl (set5 K8.out).1.2.1 rfl ⟨rfl, (set5 K8.out).tail.tail⟩
         · have eA : ANS = .bad 163 := by rw [eR.out, if_neg hlen, goO_6, G1.out, G2.out, G3.out, if_neg s2]
           have s2' : (numW (l.getD 2 [])).isSome = false := by simpa using s2
           rw [s2'] at N2
           have K8 := hid (A1.out.addBlk [.int .i64 6, .string ⟨(l.getD 1 []).toArray⟩, .string ⟨#[]⟩, .int .i64 0, .int .i64 0] 24).swap
           clear CK eR hlen A1 y0 y1 y2 y3 y4 ylt f0 f1 f2 f3 f4 s2 s2'
           subst eA
           generalize l.length = nn at *
           generalize ByteArray.mk (l.getD 1 []).toArray = Y1 at *
           generalize ByteArray.mk (l.getD 2 []).toArray = Y2 at *
           generalize ByteArray.mk (l.getD 3 []).toArray = Y3 at *
           generalize (numW (l.getD 2 [])).getD 0 = Z2 at *
           obtain ⟨y0, y1, y2, y3, y4, ylt⟩ := blk5 K8.out (.head _)
           obtain ⟨f0, f1, f2, f3, f4⟩ := blk5f K8.out
           go_wp2_with (go_at_call 52; refine (N2.out _).mono ?_; rintro e wn ⟨rfl, hwn⟩; subst wn; refine Hid.out ?_)
           refine hid ?_
           go_wp2
           exact ret_cell5 rfl rfl rfl rfl (set5 K8.out).1.2.1 rfl ⟨rfl, (set5 K8.out).tail.tail⟩
     · by_cases hlen : l.length < 1 + (ltN 7).length
       · have eA : ANS = .bad 162 := by rw [eR.out, if_pos hlen]
         subst eA
         have hlen' : (l.length : Int) < 2 := by have : l.length < 2 := hlen; omega
         clear HR RN CK hlen eR
         generalize l.length = n at *
         go_wp2
         exact ret_cell5 rfl rfl rfl rfl (set5 A1.out).1.2.1 rfl ⟨rfl, (set5 A1.out).tail⟩
       · have hlw : 2 ≤ l.length := by have : ¬ l.length < 2 := hlen; omega
         have hlen' : ¬ (l.length : Int) < 2 := by omega
         have i1 : (1 : Int) < l.length := by omega
         obtain ⟨c1', hgl⟩ := HR.out 1 w1 (by omega) A1.out.tail
         clear RN HR
         have eA : ANS = if chkR8 ⟨7, (l.getD 1 []), [], 0, 0⟩ ≠ 0 then .bad (chkR8 ⟨7, (l.getD 1 []), [], 0, 0⟩) else ⟨⟨7, (l.getD 1 []), [], 0, 0⟩, 2, 0⟩ := by rw [eR.out, if_neg hlen, goO_1 (by omega), G1.out]; rfl
         have A7 : All (blkC w1.heap.size [.int .i64 7, .string ⟨(l.getD 1 []).toArray⟩, .string ⟨#[]⟩, .int .i64 0, .int .i64 0] 24 :: blkC B2 [.int .i64 0, .string ⟨#[]⟩, .string ⟨#[]⟩, .int .i64 0, .int .i64 0] 24 :: cs) (w1.alloc (.cells #[.int .i64 7, .string ⟨(l.getD 1 []).toArray⟩, .string ⟨#[]⟩, .int .i64 0, .int .i64 0] 24)) := A1.out.addBlk [.int .i64 7, .string ⟨(l.getD 1 []).toArray⟩, .string ⟨#[]⟩, .int .i64 0, .int .i64 0] 24
         have Q : Hid (Calls Tryz.prog 98 #[.agg #[.int .i64 7, .string ⟨(l.getD 1 []).toArray⟩, .string ⟨#[]⟩, .int .i64 0, .int .i64 0]] (w1.alloc (.cells #[.int .i64 7, .string ⟨(l.getD 1 []).toArray⟩, .string ⟨#[]⟩, .int .i64 0, .int .i64 0] 24)) fun e w' => e = .returned (.int .i64 (chkR8 ⟨7, (l.getD 1 []), [], 0, 0⟩)) ∧ All (blkC w1.heap.size [.int .i64 7, .string ⟨(l.getD 1 []).toArray⟩, .string ⟨#[]⟩, .int .i64 0, .int .i64 0] 24 :: blkC B2 [.int .i64 0, .string ⟨#[]⟩, .string ⟨#[]⟩, .int .i64 0, .int .i64 0] 24 :: cs) w') := hid (CK.out ⟨7, (l.getD 1 []), [], 0, 0⟩ _ _ A7)
         clear CK A7 eR hlen A1 y0 y1 y2 y3 y4 ylt f0 f1 f2 f3 f4
         by_cases hX : chkR8 ⟨7, (l.getD 1 []), [], 0, 0⟩ ≠ 0
         · rw [if_pos hX] at eA
           subst eA
           have hX' : (chkR8 ⟨7, (l.getD 1 []), [], 0, 0⟩ != 0) = true := by simpa using hX
           clear hX
           generalize chkR8 ⟨7, (l.getD 1 []), [], 0, 0⟩ = XX at *
           generalize l.length = nn at *
           generalize ByteArray.mk (l.getD 1 []).toArray = Y1 at *
           go_wp2_with (go_at_call 98; refine Q.out.mono ?_; rintro e w3 ⟨rfl, A8⟩; have K8 := hid A8.swap; clear A8; refine Hid.out ?_)
           refine hid ?_
           clear Q
           obtain ⟨y0, y1, y2, y3, y4, ylt⟩ := blk5 K8.out (.head _)
           obtain ⟨x0, x1, x2, x3, x4, xlt⟩ := blk5 K8.out (.tail _ (.head _))
           obtain ⟨f0, f1, f2, f3, f4⟩ := blk5f K8.out
           go_wp2
           exact ret_cell5 rfl rfl rfl rfl (set5 K8.out).1.2.1 rfl ⟨rfl, (set5 K8.out).tail.tail⟩
         · rw [if_neg hX] at eA
           have hX' : chkR8 ⟨7, (l.getD 1 []), [], 0, 0⟩ = 0 := Classical.byContradiction hX
           rw [hX'] at Q
           have eP : Hid (∀ en w', en = .returned (.tuple #[.agg #[.int .i64 7, .string ⟨(l.getD 1 []).toArray⟩, .string ⟨#[]⟩, .int .i64 0, .int .i64 0], .int .i64 2, .int .i64 0]) → All cs w' → ROPost ANS cs en w') := hid (fun en w' h1 h2 => by subst eA; exact ⟨h1, h2⟩)
           clear hX hX' eA
           generalize l.length = nn at *
           generalize ByteArray.mk (l.getD 1 []).toArray = Y1 at *
           go_wp2_with (go_at_call 98; refine Q.out.mono ?_; rintro e w3 ⟨rfl, A8⟩; have K8 := hid A8.swap; clear A8; refine Hid.out ?_)
           refine hid ?_
           clear Q
           obtain ⟨y0, y1, y2, y3, y4, ylt⟩ := blk5 K8.out (.head _)
           obtain ⟨x0, x1, x2, x3, x4, xlt⟩ := blk5 K8.out (.tail _ (.head _))
           obtain ⟨f0, f1, f2, f3, f4⟩ := blk5f K8.out
           have K9 := hid (set5 (v0 := .int .i64 7) (v1 := .string Y1) (v2 := .string ⟨#[]⟩) (v3 := .int .i64 0) (v4 := .int .i64 0) K8.out)
           go_wp2
           exact ret_cell5 rfl rfl rfl rfl K9.out.1.2.1 rfl (eP.out _ _ rfl K9.out.tail.tail)
     · by_cases hlen : l.length < 1 + (ltN 8).length
       · exact absurd hlen (by have : 1 ≤ l.length := hpos; intro h; have : l.length < 1 := h; omega)
       · have hlw : 1 ≤ l.length := by have : ¬ l.length < 1 := hlen; omega
         have hlen' : ¬ (l.length : Int) < 1 := by omega
         clear RN HR
         have eA : ANS = if chkR8 ⟨8, [], [], 0, 0⟩ ≠ 0 then .bad (chkR8 ⟨8, [], [], 0, 0⟩) else ⟨⟨8, [], [], 0, 0⟩, 1, 0⟩ := by rw [eR.out, if_neg hlen, goO_8]; rfl
         have A7 : All (blkC w1.heap.size [.int .i64 8, .string ⟨#[]⟩, .string ⟨#[]⟩, .int .i64 0, .int .i64 0] 24 :: blkC B2 [.int .i64 0, .string ⟨#[]⟩, .string ⟨#[]⟩, .int .i64 0, .int .i64 0] 24 :: cs) (w1.alloc (.cells #[.int .i64 8, .string ⟨#[]⟩, .string ⟨#[]⟩, .int .i64 0, .int .i64 0] 24)) := A1.out.addBlk [.int .i64 8, .string ⟨#[]⟩, .string ⟨#[]⟩, .int .i64 0, .int .i64 0] 24
         have Q : Hid (Calls Tryz.prog 98 #[.agg #[.int .i64 8, .string ⟨#[]⟩, .string ⟨#[]⟩, .int .i64 0, .int .i64 0]] (w1.alloc (.cells #[.int .i64 8, .string ⟨#[]⟩, .string ⟨#[]⟩, .int .i64 0, .int .i64 0] 24)) fun e w' => e = .returned (.int .i64 (chkR8 ⟨8, [], [], 0, 0⟩)) ∧ All (blkC w1.heap.size [.int .i64 8, .string ⟨#[]⟩, .string ⟨#[]⟩, .int .i64 0, .int .i64 0] 24 :: blkC B2 [.int .i64 0, .string ⟨#[]⟩, .string ⟨#[]⟩, .int .i64 0, .int .i64 0] 24 :: cs) w') := hid (CK.out ⟨8, [], [], 0, 0⟩ _ _ A7)
         clear CK A7 eR hlen A1 y0 y1 y2 y3 y4 ylt f0 f1 f2 f3 f4
         by_cases hX : chkR8 ⟨8, [], [], 0, 0⟩ ≠ 0
         · rw [if_pos hX] at eA
           subst eA
           have hX' : (chkR8 ⟨8, [], [], 0, 0⟩ != 0) = true := by simpa using hX
           clear hX
           generalize chkR8 ⟨8, [], [], 0, 0⟩ = XX at *
           generalize l.length = nn at *
           go_wp2_with (go_at_call 98; refine Q.out.mono ?_; rintro e w3 ⟨rfl, A8⟩; have K8 := hid A8.swap; clear A8; refine Hid.out ?_)
           refine hid ?_
           clear Q
           obtain ⟨y0, y1, y2, y3, y4, ylt⟩ := blk5 K8.out (.head _)
           obtain ⟨x0, x1, x2, x3, x4, xlt⟩ := blk5 K8.out (.tail _ (.head _))
           obtain ⟨f0, f1, f2, f3, f4⟩ := blk5f K8.out
           go_wp2
           exact ret_cell5 rfl rfl rfl rfl (set5 K8.out).1.2.1 rfl ⟨rfl, (set5 K8.out).tail.tail⟩
         · rw [if_neg hX] at eA
           have hX' : chkR8 ⟨8, [], [], 0, 0⟩ = 0 := Classical.byContradiction hX
           rw [hX'] at Q
           have eP : Hid (∀ en w', en = .returned (.tuple #[.agg #[.int .i64 8, .string ⟨#[]⟩, .string ⟨#[]⟩, .int .i64 0, .int .i64 0], .int .i64 1, .int .i64 0]) → All cs w' → ROPost ANS cs en w') := hid (fun en w' h1 h2 => by subst eA; exact ⟨h1, h2⟩)
           clear hX hX' eA
           generalize l.length = nn at *
           go_wp2_with (go_at_call 98; refine Q.out.mono ?_; rintro e w3 ⟨rfl, A8⟩; have K8 := hid A8.swap; clear A8; refine Hid.out ?_)
           refine hid ?_
           clear Q
           obtain ⟨y0, y1, y2, y3, y4, ylt⟩ := blk5 K8.out (.head _)
           obtain ⟨x0, x1, x2, x3, x4, xlt⟩ := blk5 K8.out (.tail _ (.head _))
           obtain ⟨f0, f1, f2, f3, f4⟩ := blk5f K8.out
           have K9 := hid (set5 (v0 := .int .i64 8) (v1 := .string ⟨#[]⟩) (v2 := .string ⟨#[]⟩) (v3 := .int .i64 0) (v4 := .int .i64 0) K8.out)
           go_wp2
           exact ret_cell5 rfl rfl rfl rfl K9.out.1.2.1 rfl (eP.out _ _ rfl K9.out.tail.tail)
end Go.Proofs.YtfeppannfcbakaaGreatDoor
