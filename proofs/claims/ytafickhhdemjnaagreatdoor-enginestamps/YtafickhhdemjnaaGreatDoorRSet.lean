import Derived.Test.YtafickhhdemjnaaGreatDoorJ16
namespace Go.Proofs.YtafickhhdemjnaaGreatDoor
open Go.RowKit
set_option linter.unusedVariables false

theorem All.sublist {cs ds : List Comp} {w : World} (hs : ds.Sublist cs) (h : All cs w) : All ds w := by
  induction hs with
  | slnil => exact h
  | cons a _ ih => exact ih h.2.2
  | cons_cons a hs ih => exact ⟨h.1, fun d hd => h.2.1 d (hs.subset hd), ih h.2.2⟩

theorem set_perm {α : Type} (L : List α) (i : Nat) (x : α) (hi : i < L.length) : (L.set i x).Perm (x :: L.eraseIdx i) := by
  induction L generalizing i with
  | nil => simp at hi
  | cons y L ih =>
    cases i with
    | zero => simp
    | succ i =>
      simp only [List.set_cons_succ, List.eraseIdx_cons_succ]
      exact (List.Perm.cons y (ih i (by simpa using hi))).trans (List.Perm.swap _ _ _)

theorem All.setPart {L cs : List Comp} {x : Comp} {w : World} {i : Nat} (hi : i < L.length) (h : All (x :: (L ++ cs)) w) : All (L.set i x ++ cs) w := by
  have p := (set_perm L i x hi).append_right cs
  refine All.perm p.symm ?_
  refine h.sublist ?_
  simp only [List.cons_append]
  exact .cons_cons _ ((List.eraseIdx_sublist L i).append (.refl _))

/-- What Set tells. -/
def setE (ps : List Pl) (cl n a c k : Int) (l : List ByteArray) : Int :=
  if ¬ (0 ≤ cl ∧ cl < 8) then 70 else if may n a c k l = false then 72
  else if (ps.getD cl.toNat .zero).on = true ∧ ¬ ((ps.getD cl.toNat .zero).n < n ∧ (ps.getD cl.toNat .zero).a < a) then 71 else 0

theorem set_who {g : Nat} {cl n a c k : Int} {s : Value} {cs : List Comp} {w : World} (h : All cs w) (hc : ¬ (0 ≤ cl ∧ cl < 8)) (hs : ∃ ao m cp, s = .slice ao m cp) : Calls Tryz.prog 125 #[.pointer (some ⟨g, 0, none⟩), .int .i64 cl, rowV n a c k s] w fun e w' => e = .returned (.int .i64 70) ∧ All cs w' := by
  have e : decide ((0 : Int) ≤ cl ∧ cl < 8) = false := by simpa using hc
  have HA := hid h
  obtain ⟨ao, m, cp, rfl⟩ := hs
  clear hc h
  go_enter Tryz.func125, Tryz.ntmps125
  go_wp2_with fail
  refine (isClient_any _).mono ?_
  rintro e w1 ⟨rfl, rfl⟩
  rw [e]
  go_wp2
  go_ret
  exact ⟨rfl, HA.out.later (ba _ _)⟩

theorem set_form {g : Nat} {cl n a c k : Int} {s : Value} {l : List ByteArray} {cs : List Comp} {w : World} (h : All cs w) (hc : 0 ≤ cl ∧ cl < 8) (hT : Txts w s l) (hl : l.length ≤ 9223372036854775807) (hm : may n a c k l = false) : Calls Tryz.prog 125 #[.pointer (some ⟨g, 0, none⟩), .int .i64 cl, rowV n a c k s] w fun e w' => e = .returned (.int .i64 72) ∧ All cs w' := by
  have e : decide ((0 : Int) ≤ cl ∧ cl < 8) = true := by simpa using hc
  have HA := hid h
  have HT := hid hT
  have HM := hid hm
  obtain ⟨ao, cp, rfl⟩ := hT.form
  clear h hT hm
  go_enter Tryz.func125, Tryz.ntmps125
  go_wp2_with fail
  refine (isClient_any _).mono ?_
  rintro e w1 ⟨rfl, hw1⟩
  rw [e]
  have HA1 := hid (HA.out.addBlk [.int .i64 n, .int .i64 a, .int .i64 c, .int .i64 k, .slice ao l.length cp] 60)
  have HT1 := hid (HT.out.alloc (.cells #[.int .i64 n, .int .i64 a, .int .i64 c, .int .i64 k, .slice ao l.length cp] 60))
  rw [← hw1] at HT1
  rw [show w.alloc (.cells [.int .i64 n, .int .i64 a, .int .i64 c, .int .i64 k, .slice ao l.length cp].toArray 60) = w1 from hw1.symm] at HA1
  have er : w1.heap[w.heap.size]? = some (.cells #[.int .i64 n, .int .i64 a, .int .i64 c, .int .i64 k, .slice ao l.length cp] 60 (0, 0)) := HA1.out.1.2.1
  have r0 : w1.cell? ⟨w.heap.size, 0, none⟩ = some (.int .i64 n) := by rw [cell_at er]; rfl
  have r1 : w1.cell? ⟨w.heap.size, 1, none⟩ = some (.int .i64 a) := by rw [cell_at er]; rfl
  have r2 : w1.cell? ⟨w.heap.size, 2, none⟩ = some (.int .i64 c) := by rw [cell_at er]; rfl
  have r3 : w1.cell? ⟨w.heap.size, 3, none⟩ = some (.int .i64 k) := by rw [cell_at er]; rfl
  have r4 : w1.cell? ⟨w.heap.size, 4, none⟩ = some (.slice ao l.length cp) := by rw [cell_at er]; rfl
  clear er hw1 HA HT
  go_wp2_with fail
  refine (mayBe_any n a c k HT1.out hl).mono ?_
  rw [HM.out]
  rintro e w2 ⟨rfl, B2⟩
  have HA2 := hid (HA1.out.later B2)
  clear HA1 B2 HT1
  go_wp2
  go_ret
  exact ⟨rfl, HA2.out.tail⟩

set_option maxHeartbeats 1600000 in
set_option maxRecDepth 1000000 in
theorem set_old {g i : Nat} {n a c k : Int} {s : Value} {l : List ByteArray} {ps : List Pl} {p : Pl} {cs : List Comp} {w : World} (h : All (rollL g ps ++ cs) w) (hi : i < 8) (hp : ps[i]? = some p) (hT : Txts w s l) (hl : l.length ≤ 9223372036854775807) (hm : may n a c k l = true) (hon : p.on = true) (ho : ¬ (p.n < n ∧ p.a < a)) : Calls Tryz.prog 125 #[.pointer (some ⟨g, 0, none⟩), .int .i64 (i : Int), rowV n a c k s] w fun e w' => e = .returned (.int .i64 71) ∧ All (rollL g ps ++ cs) w' := by
  have eo : decide (p.n < n ∧ p.a < a) = false := by simpa using ho
  clear ho
  have e : decide ((0 : Int) ≤ (i : Int) ∧ (i : Int) < 8) = true := by simp; omega
  have hI : (i : Int) < 8 := by omega
  have HA := hid h
  have HT := hid hT
  have HM := hid hm
  have HP := hid hp
  obtain ⟨ao, cp, rfl⟩ := hT.form
  clear h hT hm hp
  go_enter Tryz.func125, Tryz.ntmps125
  go_wp2_with fail
  refine (isClient_any _).mono ?_
  rintro e w1 ⟨rfl, hw1⟩
  rw [e]
  have HA1 := hid (HA.out.addBlk [.int .i64 n, .int .i64 a, .int .i64 c, .int .i64 k, .slice ao l.length cp] 60)
  have HT1 := hid (HT.out.alloc (.cells #[.int .i64 n, .int .i64 a, .int .i64 c, .int .i64 k, .slice ao l.length cp] 60))
  rw [← hw1] at HT1
  rw [show w.alloc (.cells [.int .i64 n, .int .i64 a, .int .i64 c, .int .i64 k, .slice ao l.length cp].toArray 60) = w1 from hw1.symm] at HA1
  have er : w1.heap[w.heap.size]? = some (.cells #[.int .i64 n, .int .i64 a, .int .i64 c, .int .i64 k, .slice ao l.length cp] 60 (0, 0)) := HA1.out.1.2.1
  have r0 : w1.cell? ⟨w.heap.size, 0, none⟩ = some (.int .i64 n) := by rw [cell_at er]; rfl
  have r1 : w1.cell? ⟨w.heap.size, 1, none⟩ = some (.int .i64 a) := by rw [cell_at er]; rfl
  have r2 : w1.cell? ⟨w.heap.size, 2, none⟩ = some (.int .i64 c) := by rw [cell_at er]; rfl
  have r3 : w1.cell? ⟨w.heap.size, 3, none⟩ = some (.int .i64 k) := by rw [cell_at er]; rfl
  have r4 : w1.cell? ⟨w.heap.size, 4, none⟩ = some (.slice ao l.length cp) := by rw [cell_at er]; rfl
  clear er hw1 HA HT
  go_wp2_with fail
  refine (mayBe_any n a c k HT1.out hl).mono ?_
  rw [HM.out]
  rintro e w2 ⟨rfl, B2⟩
  have HA2 := hid (HA1.out.later B2)
  have HT2 := hid (HT1.out.later B2)
  clear HA1 B2 HT1 r0 r1 r2 r3 r4 HM
  have er : w2.heap[w.heap.size]? = some (.cells #[.int .i64 n, .int .i64 a, .int .i64 c, .int .i64 k, .slice ao l.length cp] 60 (0, 0)) := HA2.out.1.2.1
  have r0 : w2.cell? ⟨w.heap.size, 0, none⟩ = some (.int .i64 n) := by rw [cell_at er]; rfl
  have r1 : w2.cell? ⟨w.heap.size, 1, none⟩ = some (.int .i64 a) := by rw [cell_at er]; rfl
  have r2 : w2.cell? ⟨w.heap.size, 2, none⟩ = some (.int .i64 c) := by rw [cell_at er]; rfl
  have r3 : w2.cell? ⟨w.heap.size, 3, none⟩ = some (.int .i64 k) := by rw [cell_at er]; rfl
  have r4 : w2.cell? ⟨w.heap.size, 4, none⟩ = some (.slice ao l.length cp) := by rw [cell_at er]; rfl
  obtain ⟨hg, hTp⟩ := HA2.out.tail.place HP.out
  obtain ⟨c0, c1, c2, c3, c4, c5⟩ := cells5 hg HP.out
  obtain ⟨aop, cpp, e5⟩ := hTp.form
  rw [e5] at c5
  have HG := hid hg
  have hgl : g < w2.heap.size := (Array.getElem?_eq_some_iff.1 hg).1
  clear er hg hTp
  have C1 : Hid (Calls Tryz.prog 83 #[.pointer (some ⟨g, 0, none⟩), .int .i64 (i : Int)] w2.drew fun e w' => e = .returned (.bool true) ∧ w' = w2.drew) := by
    have := has_anyR7 (w := w2.drew) HG.out HP.out hi
    rw [hon] at this
    exact this
  have C2 : Hid (Calls Tryz.prog 165 #[rowV p.n p.a p.c p.k (.slice aop p.l.length cpp), rowV n a c k (.slice ao l.length cp)] w2.drew fun e w' => e = .returned (.bool false) ∧ Below w2.drew.heap.size w2.drew w') := by
    have := rises_any (w := w2.drew) p.n p.a p.c p.k n a c k (.slice aop p.l.length cpp) (.slice ao l.length cp)
    rw [eo] at this
    exact this
  go_wp2_with fail
  go_region_law (go_simp; first | (go_at_call 83; refine C1.out.mono ?_; rintro e w3 ⟨rfl, rfl⟩) | (go_at_call 165; refine C2.out.mono ?_; rintro e w4 ⟨rfl, B4⟩))
  all_goals have HA4 := hid (HA2.out.drew.later B4)
  all_goals clear HA2 B4
  all_goals (first | (go_ret; exact ⟨rfl, HA4.out.tail⟩) | (go_wp2; go_ret; exact ⟨rfl, HA4.out.tail⟩))

set_option maxHeartbeats 1600000 in
set_option maxRecDepth 1000000 in
theorem set_on {g i : Nat} {n a c k : Int} {s : Value} {l : List ByteArray} {ps : List Pl} {p : Pl} {cs : List Comp} {w : World} (h : All (rollL g ps ++ cs) w) (hi : i < 8) (hp : ps[i]? = some p) (hT : Txts w s l) (hl : l.length ≤ 9223372036854775807) (hl2 : l.length ≤ 1000) (hm : may n a c k l = true) (hon : p.on = true) (ho : p.n < n ∧ p.a < a) : Calls Tryz.prog 125 #[.pointer (some ⟨g, 0, none⟩), .int .i64 (i : Int), rowV n a c k s] w fun e w' => e = .returned (.int .i64 0) ∧ ∃ s', All (rollL g (ps.set i ⟨true, n, a, c, k, s', l⟩) ++ cs) w' := by
  have e : decide ((0 : Int) ≤ (i : Int) ∧ (i : Int) < 8) = true := by simp; omega
  have hI : (i : Int) < 8 := by omega
  have HA := hid h
  have HT := hid hT
  have HM := hid hm
  have HP := hid hp
  obtain ⟨ao, cp, rfl⟩ := hT.form
  clear h hT hm hp
  go_enter Tryz.func125, Tryz.ntmps125
  go_wp2_with fail
  refine (isClient_any _).mono ?_
  rintro e w1 ⟨rfl, hw1⟩
  rw [e]
  have HA1 := hid (HA.out.addBlk [.int .i64 n, .int .i64 a, .int .i64 c, .int .i64 k, .slice ao l.length cp] 60)
  have HT1 := hid (HT.out.alloc (.cells #[.int .i64 n, .int .i64 a, .int .i64 c, .int .i64 k, .slice ao l.length cp] 60))
  rw [← hw1] at HT1
  rw [show w.alloc (.cells [.int .i64 n, .int .i64 a, .int .i64 c, .int .i64 k, .slice ao l.length cp].toArray 60) = w1 from hw1.symm] at HA1
  have er : w1.heap[w.heap.size]? = some (.cells #[.int .i64 n, .int .i64 a, .int .i64 c, .int .i64 k, .slice ao l.length cp] 60 (0, 0)) := HA1.out.1.2.1
  have r0 : w1.cell? ⟨w.heap.size, 0, none⟩ = some (.int .i64 n) := by rw [cell_at er]; rfl
  have r1 : w1.cell? ⟨w.heap.size, 1, none⟩ = some (.int .i64 a) := by rw [cell_at er]; rfl
  have r2 : w1.cell? ⟨w.heap.size, 2, none⟩ = some (.int .i64 c) := by rw [cell_at er]; rfl
  have r3 : w1.cell? ⟨w.heap.size, 3, none⟩ = some (.int .i64 k) := by rw [cell_at er]; rfl
  have r4 : w1.cell? ⟨w.heap.size, 4, none⟩ = some (.slice ao l.length cp) := by rw [cell_at er]; rfl
  clear er hw1 HA HT
  go_wp2_with fail
  refine (mayBe_any n a c k HT1.out hl).mono ?_
  rw [HM.out]
  rintro e w2 ⟨rfl, B2⟩
  have HA2 := hid (HA1.out.later B2)
  have HT2 := hid (HT1.out.later B2)
  clear HA1 B2 HT1 r0 r1 r2 r3 r4 HM
  have er : w2.heap[w.heap.size]? = some (.cells #[.int .i64 n, .int .i64 a, .int .i64 c, .int .i64 k, .slice ao l.length cp] 60 (0, 0)) := HA2.out.1.2.1
  have r0 : w2.cell? ⟨w.heap.size, 0, none⟩ = some (.int .i64 n) := by rw [cell_at er]; rfl
  have r1 : w2.cell? ⟨w.heap.size, 1, none⟩ = some (.int .i64 a) := by rw [cell_at er]; rfl
  have r2 : w2.cell? ⟨w.heap.size, 2, none⟩ = some (.int .i64 c) := by rw [cell_at er]; rfl
  have r3 : w2.cell? ⟨w.heap.size, 3, none⟩ = some (.int .i64 k) := by rw [cell_at er]; rfl
  have r4 : w2.cell? ⟨w.heap.size, 4, none⟩ = some (.slice ao l.length cp) := by rw [cell_at er]; rfl
  obtain ⟨hg, hTp⟩ := HA2.out.tail.place HP.out
  obtain ⟨c0, c1, c2, c3, c4, c5⟩ := cells5 hg HP.out
  obtain ⟨aop, cpp, e5⟩ := hTp.form
  rw [e5] at c5
  have HG := hid hg
  have hgl : g < w2.heap.size := (Array.getElem?_eq_some_iff.1 hg).1
  clear er hg hTp
  have FIN : Hid (∀ w4, All (blkC w.heap.size [.int .i64 n, .int .i64 a, .int .i64 c, .int .i64 k, .slice ao l.length cp] 60 :: (rollL g ps ++ cs)) w4 → Txts w4 (.slice ao l.length cp) l → Calls Tryz.prog 84 #[rowV n a c k (.slice ao l.length cp)] w4 fun e w5 => ∃ ao' c', e = .returned (rowV n a c k (.slice ao' l.length c')) ∧ w5.cell? ⟨g, i * 6, none⟩ = some (.bool p.on) ∧ w5.cell? ⟨g, i * 6 + 1, none⟩ = some (.int .i64 p.n) ∧ w5.cell? ⟨g, i * 6 + 2, none⟩ = some (.int .i64 p.a) ∧ w5.cell? ⟨g, i * 6 + 3, none⟩ = some (.int .i64 p.c) ∧ w5.cell? ⟨g, i * 6 + 4, none⟩ = some (.int .i64 p.k) ∧ w5.cell? ⟨g, i * 6 + 5, none⟩ = some (.slice aop p.l.length cpp) ∧ (∀ j, w5.frozen? ⟨g, j, none⟩ = false) ∧
      Hid (All (rollL g (ps.set i ⟨true, n, a, c, k, .slice ao' l.length c', l⟩) ++ cs) ((((((w5.setCell ⟨g, i * 6, none⟩ (.bool true)).setCell ⟨g, i * 6 + 1, none⟩ (.int .i64 n)).setCell ⟨g, i * 6 + 2, none⟩ (.int .i64 a)).setCell ⟨g, i * 6 + 3, none⟩ (.int .i64 c)).setCell ⟨g, i * 6 + 4, none⟩ (.int .i64 k)).setCell ⟨g, i * 6 + 5, none⟩ (.slice ao' l.length c')))) := by
    intro w4 hA4 hT4
    refine (copied_any hA4 n a c k hT4 hl2).mono ?_
    rintro e w5 ⟨ao', c', rfl, A5, B5⟩
    have A6 : All (blkC g (flatP ps) 148 :: (ownC 9 (.slice ao' l.length c') (cellsT l) :: (ps.map Pl.part ++ cs))) w5 := by
      refine All.perm ?_ (A5.sublist (.cons_cons _ (.cons _ (.refl _))))
      simp only [rollL, List.cons_append]
      exact List.Perm.swap _ _ _
    have hg5 := A6.1.2.1
    obtain ⟨c0, c1, c2, c3, c4, c5⟩ := cells5 hg5 HP.out
    rw [e5] at c5
    refine ⟨ao', c', rfl, c0, c1, c2, c3, c4, c5, fun j => free_at hg5 j, ?_⟩
    have A7 := (((((A6.setBlk (i * 6) (.bool true)).setBlk (i * 6 + 1) (.int .i64 n)).setBlk (i * 6 + 2) (.int .i64 a)).setBlk (i * 6 + 3) (.int .i64 c)).setBlk (i * 6 + 4) (.int .i64 k)).setBlk (i * 6 + 5) (.slice ao' l.length c')
    have eq := flatP_set (q := ⟨true, n, a, c, k, .slice ao' l.length c', l⟩) HP.out
    simp only at eq
    rw [eq] at A7
    have A8 := All.setPart (i := i) (L := ps.map Pl.part) (cs := cs) (by simp; exact (List.getElem?_eq_some_iff.1 HP.out).1) A7.tail
    have h9 : All (blkC g (flatP (ps.set i ⟨true, n, a, c, k, .slice ao' l.length c', l⟩)) 148 :: ((ps.map Pl.part).set i (ownC 9 (.slice ao' l.length c') (cellsT l)) ++ cs)) _ := ⟨A7.1, fun d hd => A7.2.1 d (by
      rcases List.mem_append.1 hd with hd | hd
      · rcases List.mem_or_eq_of_mem_set hd with hd | rfl
        · exact List.mem_cons_of_mem _ (List.mem_append_left _ hd)
        · exact List.mem_cons_self
      · exact List.mem_cons_of_mem _ (List.mem_append_right _ hd)), A8⟩
    show All _ _
    simp only [rollL, List.cons_append, List.map_set]
    exact h9
  have eo : decide (p.n < n ∧ p.a < a) = true := by simpa using ho
  clear ho
  have C1 : Hid (Calls Tryz.prog 83 #[.pointer (some ⟨g, 0, none⟩), .int .i64 (i : Int)] w2.drew fun e w' => e = .returned (.bool true) ∧ w' = w2.drew) := by
    have := has_anyR7 (w := w2.drew) HG.out HP.out hi
    rw [hon] at this
    exact this
  have C2 : Hid (Calls Tryz.prog 165 #[rowV p.n p.a p.c p.k (.slice aop p.l.length cpp), rowV n a c k (.slice ao l.length cp)] w2.drew fun e w' => e = .returned (.bool true) ∧ Below w2.drew.heap.size w2.drew w') := by
    have := rises_any (w := w2.drew) p.n p.a p.c p.k n a c k (.slice aop p.l.length cpp) (.slice ao l.length cp)
    rw [eo] at this
    exact this
  go_wp2_with fail
  go_region_law (go_simp; first | (go_at_call 83; refine C1.out.mono ?_; rintro e w3 ⟨rfl, rfl⟩) | (go_at_call 165; refine C2.out.mono ?_; rintro e w4 ⟨rfl, B4⟩))
  all_goals have HA4 := hid (HA2.out.drew.later B4)
  all_goals have HT4 := hid (HT2.out.later ((bd w2).trans B4))
  all_goals clear HA2 B4 HT2 C1 C2 r0 r1 r2 r3 r4 c0 c1 c2 c3 c4 c5 hgl
  all_goals have er : w4.heap[w.heap.size]? = some (.cells #[.int .i64 n, .int .i64 a, .int .i64 c, .int .i64 k, .slice ao l.length cp] 60 (0, 0)) := HA4.out.1.2.1
  all_goals have r0 : w4.cell? ⟨w.heap.size, 0, none⟩ = some (.int .i64 n) := by rw [cell_at er]; rfl
  all_goals have r1 : w4.cell? ⟨w.heap.size, 1, none⟩ = some (.int .i64 a) := by rw [cell_at er]; rfl
  all_goals have r2 : w4.cell? ⟨w.heap.size, 2, none⟩ = some (.int .i64 c) := by rw [cell_at er]; rfl
  all_goals have r3 : w4.cell? ⟨w.heap.size, 3, none⟩ = some (.int .i64 k) := by rw [cell_at er]; rfl
  all_goals have r4 : w4.cell? ⟨w.heap.size, 4, none⟩ = some (.slice ao l.length cp) := by rw [cell_at er]; rfl
  all_goals clear er
  all_goals have C3 := hid (FIN.out w4.drew HA4.out.drew (HT4.out.later (bd w4)))
  all_goals clear FIN HA4 HT4
  all_goals go_wp2_with fail
  all_goals go_region_law (go_simp; go_at_call 84; refine C3.out.mono ?_; rintro e w5 ⟨ao', c', rfl, c0, c1, c2, c3, c4, c5, cf, H5⟩)
  all_goals clear C3 c0 c1 c2 c3 c4 c5 cf
  all_goals (go_wp2; go_ret; exact ⟨rfl, _, H5.out⟩)

end Go.Proofs.YtafickhhdemjnaaGreatDoor
