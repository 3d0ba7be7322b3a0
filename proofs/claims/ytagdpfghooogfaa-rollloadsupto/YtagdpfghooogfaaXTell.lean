import Derived.Test.YtagdpfghooogfaaXLast
namespace Go.Proofs.Ytagdpfghooogfaa
open Go.RowKit
set_option linter.unusedVariables false

/-- The zero row, for who has none. -/
theorem xlast_off {g : Nat} {cl : Int} {ps : List Pl} {cs : List Comp} {w : World} (h8 : ps.length = 8) (h : All (xrollL g ps ++ cs) w) (ho : (atP ps cl).on = false) : Calls Try.prog 34 #[.pointer (some ⟨g, 0, none⟩), .int .i64 cl] w fun e w' => e = .returned (.tuple #[rowV 0 0 0 0 (.slice none 0 0), .bool false]) ∧ All (xrollL g ps ++ cs) w' := by
  have HA1 := hid (h.addBlk [.int .i64 0, .int .i64 0, .int .i64 0, .int .i64 0, .slice none 0 0] 39)
  have FIN : Hid (∀ W, W = w.alloc (.cells #[.int .i64 0, .int .i64 0, .int .i64 0, .int .i64 0, .slice none 0 0] 39) → W.heap[w.heap.size]? = some (.cells #[.int .i64 0, .int .i64 0, .int .i64 0, .int .i64 0, .slice none 0 0] 39 (0, 0)) ∧ All (xrollL g ps ++ cs) W) := hid (by
    rintro W rfl
    exact ⟨HA1.out.1.2.1, HA1.out.tail⟩)
  by_cases h0 : cl < 0
  · have e0 : decide (cl < 0) = true := by simpa using h0
    clear h HA1 ho
    go_enter Try.func34, Try.ntmps34
    go_wp2
    obtain ⟨f1, f2⟩ := FIN.out _ rfl
    exact bodyPost_ret (v := .tuple #[rowV 0 0 0 0 (.slice none 0 0), .bool false]) (res34 (b := w.heap.size) rfl rfl f1) rfl ⟨rfl, f2⟩
  have e0 : decide (cl < 0) = false := by simpa using h0
  by_cases h7 : 7 < cl
  · have e7 : decide (7 < cl) = true := by simpa using h7
    clear h HA1 ho
    go_enter Try.func34, Try.ntmps34
    go_wp2
    obtain ⟨f1, f2⟩ := FIN.out _ rfl
    exact bodyPost_ret (v := .tuple #[rowV 0 0 0 0 (.slice none 0 0), .bool false]) (res34 (b := w.heap.size) rfl rfl f1) rfl ⟨rfl, f2⟩
  have e7 : decide (7 < cl) = false := by simpa using h7
  obtain ⟨i, rfl⟩ : ∃ i : Nat, cl = i := ⟨cl.toNat, by omega⟩
  have hi : i < 8 := by omega
  obtain ⟨p, hp⟩ : ∃ p, ps[i]? = some p := ⟨_, List.getElem?_eq_getElem (by omega)⟩
  have ep : atP ps (i : Int) = p := by rw [atP, if_pos (by omega)]; simp [List.getD, hp]
  rw [ep] at ho
  obtain ⟨hg, _⟩ := h.xplace hp
  obtain ⟨c0, _⟩ := xcells h8 hg hp
  rw [ho] at c0
  have hgl : g < w.heap.size := (Array.getElem?_eq_some_iff.1 hg).1
  have hI : (i : Int) < 8 := by omega
  clear h HA1 ho hg hp ep h7
  go_enter Try.func34, Try.ntmps34
  go_wp2
  obtain ⟨f1, f2⟩ := FIN.out _ rfl
  exact bodyPost_ret (v := .tuple #[rowV 0 0 0 0 (.slice none 0 0), .bool false]) (res34 (b := w.heap.size) rfl rfl f1) rfl ⟨rfl, f2⟩

set_option maxRecDepth 1000000 in
theorem xlast_on {g i : Nat} {ps : List Pl} {p : Pl} {cs : List Comp} {w : World} (h8 : ps.length = 8) (h : All (xrollL g ps ++ cs) w) (hp : ps[i]? = some p) (hi : i < 8) (hon : p.on = true) (hl : p.l.length ≤ 1000) : Calls Try.prog 34 #[.pointer (some ⟨g, 0, none⟩), .int .i64 (i : Int)] w fun e w' => ∃ ao c', e = .returned (.tuple #[rowV p.n p.a p.c p.k (.slice ao p.l.length c'), .bool true]) ∧ All (ownC 9 (.slice ao p.l.length c') (cellsT p.l) :: (xrollL g ps ++ cs)) w' := by
  obtain ⟨hg, hT⟩ := h.xplace hp
  obtain ⟨c0, c1, c2, c3, c4, c5⟩ := xcells h8 hg hp
  obtain ⟨ao, cp, e5⟩ := hT.form
  have HT := hid hT
  rw [hon] at c0
  have hgl : g < w.heap.size := (Array.getElem?_eq_some_iff.1 hg).1
  have hI : (i : Int) < 8 := by omega
  have e0 : decide ((i : Int) < 0) = false := by rw [decide_eq_false_iff_not]; omega
  have e7 : decide (7 < (i : Int)) = false := by rw [decide_eq_false_iff_not]; omega
  rw [e5] at c5
  have HA1 := hid (h.addBlk [.int .i64 0, .int .i64 0, .int .i64 0, .int .i64 0, .slice none 0 0] 39)
  clear h hg hT hp hon
  go_enter Try.func34, Try.ntmps34
  go_wp2_with fail
  refine (xcopied_any HA1.out p.n p.a p.c p.k (e5 ▸ HT.out.alloc _) hl).mono ?_
  rintro e w1 ⟨ao', c', rfl, A2⟩
  have err : w1.heap[w.heap.size]? = some (.cells #[.int .i64 0, .int .i64 0, .int .i64 0, .int .i64 0, .slice none 0 0] 39 (0, 0)) := A2.tail.1.2.1
  have r0 : w1.cell? ⟨w.heap.size, 0, none⟩ = some (.int .i64 0) := by rw [cell_at err]; rfl
  have r1 : w1.cell? ⟨w.heap.size, 1, none⟩ = some (.int .i64 0) := by rw [cell_at err]; rfl
  have r2 : w1.cell? ⟨w.heap.size, 2, none⟩ = some (.int .i64 0) := by rw [cell_at err]; rfl
  have r3 : w1.cell? ⟨w.heap.size, 3, none⟩ = some (.int .i64 0) := by rw [cell_at err]; rfl
  have r4 : w1.cell? ⟨w.heap.size, 4, none⟩ = some (.slice none 0 0) := by rw [cell_at err]; rfl
  have fr0 : w1.frozen? ⟨w.heap.size, 0, none⟩ = false := free_at err 0
  have fr1 : w1.frozen? ⟨w.heap.size, 1, none⟩ = false := free_at err 1
  have fr2 : w1.frozen? ⟨w.heap.size, 2, none⟩ = false := free_at err 2
  have fr3 : w1.frozen? ⟨w.heap.size, 3, none⟩ = false := free_at err 3
  have fr4 : w1.frozen? ⟨w.heap.size, 4, none⟩ = false := free_at err 4
  clear err
  have HA2 := hid A2
  clear A2 HA1 HT
  go_wp2
  have A3 := ((((HA2.out.swap.setBlk 0 (.int .i64 p.n)).setBlk 1 (.int .i64 p.a)).setBlk 2 (.int .i64 p.c)).setBlk 3 (.int .i64 p.k)).setBlk 4 (.slice ao' p.l.length c')
  refine bodyPost_ret (v := .tuple #[rowV p.n p.a p.c p.k (.slice ao' p.l.length c'), .bool true]) (res34 (b := w.heap.size) rfl rfl A3.1.2.1) rfl ?_
  exact ⟨ao', c', rfl, A3.tail⟩

theorem xlast_any {g : Nat} {ps : List Pl} {cs : List Comp} {w : World} (h : All (xrollL g ps ++ cs) w) (hok : OkP ps) (c : Int) : Calls Try.prog 34 #[.pointer (some ⟨g, 0, none⟩), .int .i64 c] w fun e w' => ∃ so sc, e = .returned (.tuple #[rowV (atP ps c).n (atP ps c).a (atP ps c).c (atP ps c).k (.slice so (atP ps c).l.length sc), .bool (atP ps c).on]) ∧ All (ownC 9 (.slice so (atP ps c).l.length sc) (cellsT (atP ps c).l) :: (xrollL g ps ++ cs)) w' := by
  cases ho : (atP ps c).on with
  | false =>
    have ez := (hok.at c).off ho
    have := xlast_off hok.1 h ho
    rw [ez]
    exact this.mono fun e w' ⟨h1, h2⟩ => ⟨none, 0, h1, h2.addNil⟩
  | true =>
    have hm := (hok.at c).may ho
    rcases at_cases hok.1 c with ⟨i, hc, hi, hp⟩ | ⟨hz, _⟩
    · have := xlast_on hok.1 h hp hi ho (by have := may_parts hm; omega)
      rw [← hc] at this
      exact this
    · rw [hz] at ho; cases ho

theorem xtell_off {g : Nat} {cl : Int} {ps : List Pl} {cs : List Comp} {w : World} (h8 : ps.length = 8) (h : All (xrollL g ps ++ cs) w) (ho : (atP ps cl).on = false) : Calls Try.prog 35 #[.pointer (some ⟨g, 0, none⟩), .int .i64 cl] w fun e w' => e = .returned (.slice none 0 0) ∧ All (xrollL g ps ++ cs) w' := by
  have HA := hid h
  by_cases h0 : cl < 0
  · have e0 : decide (cl < 0) = true := by simpa using h0
    clear h ho
    go_enter Try.func35, Try.ntmps35
    go_wp2
    go_ret
    exact ⟨rfl, HA.out⟩
  have e0 : decide (cl < 0) = false := by simpa using h0
  by_cases h7 : 7 < cl
  · have e7 : decide (7 < cl) = true := by simpa using h7
    clear h ho
    go_enter Try.func35, Try.ntmps35
    go_wp2
    go_ret
    exact ⟨rfl, HA.out⟩
  have e7 : decide (7 < cl) = false := by simpa using h7
  obtain ⟨i, rfl⟩ : ∃ i : Nat, cl = i := ⟨cl.toNat, by omega⟩
  have hi : i < 8 := by omega
  obtain ⟨p, hp⟩ : ∃ p, ps[i]? = some p := ⟨_, List.getElem?_eq_getElem (by omega)⟩
  have ep : atP ps (i : Int) = p := by rw [atP, if_pos (by omega)]; simp [List.getD, hp]
  rw [ep] at ho
  obtain ⟨hg, _⟩ := h.xplace hp
  obtain ⟨c0, _⟩ := xcells h8 hg hp
  rw [ho] at c0
  have hI : (i : Int) < 8 := by omega
  clear h ho hg hp ep h7
  go_enter Try.func35, Try.ntmps35
  go_wp2
  go_ret
  exact ⟨rfl, HA.out⟩

set_option maxHeartbeats 1600000 in
set_option maxRecDepth 1000000 in
theorem xtell_on {g i : Nat} {ps : List Pl} {p : Pl} {cs : List Comp} {w : World} (h8 : ps.length = 8) (h : All (xrollL g ps ++ cs) w) (hp : ps[i]? = some p) (hi : i < 8) (hon : p.on = true) (hm : may p.n p.a p.c p.k p.l = true) : Calls Try.prog 35 #[.pointer (some ⟨g, 0, none⟩), .int .i64 (i : Int)] w fun e w' => ∃ so sc, e = .returned (.slice so (rowB p.n p.a p.c p.k p.l).length sc) ∧ All (ownC 5 (.slice so (rowB p.n p.a p.c p.k p.l).length sc) (cellsB (rowB p.n p.a p.c p.k p.l)) :: (xrollL g ps ++ cs)) w' := by
  have HP := hid hp
  have HM := hid hm
  have H8 := hid h8
  have CE : Hid (∀ W cs', All (xrollL g ps ++ cs') W → W.cell? ⟨g, 40 + i, none⟩ = some (.bool true) ∧ W.cell? ⟨g, i * 5, none⟩ = some (.int .i64 p.n) ∧ W.cell? ⟨g, i * 5 + 1, none⟩ = some (.int .i64 p.a) ∧ W.cell? ⟨g, i * 5 + 2, none⟩ = some (.int .i64 p.c) ∧ W.cell? ⟨g, i * 5 + 3, none⟩ = some (.int .i64 p.k) ∧ W.cell? ⟨g, i * 5 + 4, none⟩ = some p.s) := hid (fun W cs' hW => by
    have := xcells H8.out (hW.xplace HP.out).1 HP.out
    rw [hon] at this
    exact this)
  obtain ⟨ao, cp, e5⟩ := (h.xplace hp).2.form
  have HT : Hid (∀ w' , All (xrollL g ps ++ cs) w' → Txts w' (.slice ao p.l.length cp) p.l) := hid (fun w' hw' => e5 ▸ (hw'.xplace HP.out).2)
  rw [e5] at CE
  have HA := hid h
  obtain ⟨c0, c1, c2, c3, c4, c5⟩ := CE.out w cs h
  have hI : (i : Int) < 8 := by omega
  have e0 : decide ((i : Int) < 0) = false := by rw [decide_eq_false_iff_not]; omega
  have e7 : decide (7 < (i : Int)) = false := by rw [decide_eq_false_iff_not]; omega
  clear h hp hon hm h8
  go_enter Try.func35, Try.ntmps35
  go_wp2_with fail
  refine (xnewW HA.out).mono ?_
  rintro e w2 ⟨b, rfl, A⟩
  have A := hid A
  clear HA c0 c1 c2 c3 c4 c5
  obtain ⟨c0, c1, c2, c3, c4, c5⟩ := CE.out w2 cs A.out.tail
  go_wp2_with fail
  refine (xnumW A.out p.n (by have := may_parts HM.out; omega) (by simp [lenS])).mono ?_
  rintro e w3 ⟨rfl, v3, A3⟩
  have A := hid A3
  clear A3 c0 c1 c2 c3 c4 c5
  obtain ⟨c0, c1, c2, c3, c4, c5⟩ := CE.out w3 cs A.out.tail
  go_wp2_with fail
  refine (xnumW A.out p.a (by have := may_parts HM.out; omega) (by have := lenS_num (some []) p.n; simp [lenS] at this ⊢; omega)).mono ?_
  rintro e w4 ⟨rfl, v4, A4⟩
  have A := hid A4
  clear A4 c0 c1 c2 c3 c4 c5
  obtain ⟨c0, c1, c2, c3, c4, c5⟩ := CE.out w4 cs A.out.tail
  go_wp2_with fail
  refine (rputR_any A.out (fun w' hw' => HT.out w' hw') p.c p.k (by have := may_parts HM.out; omega) (by have := may_parts HM.out; omega) ?_ (by have := may_parts HM.out; omega)).mono ?_
  · have h1 := lenS_num (some []) p.n
    have h2 := lenS_num (numS (some []) p.n) p.a
    have h3 := may_parts HM.out
    have h4 := bulk_short h3.2.2.2.2.2.2.2.2.2.2.1
    simp only [lenS, List.length_nil] at h1 h2 ⊢
    omega
  rw [may_put HM.out]
  rintro e w5 ⟨rfl, v5, A5⟩
  have A := hid A5
  clear A5 c0 c1 c2 c3 c4 c5
  go_wp2_with fail
  refine (xdoneW A.out (by have := rowB_len HM.out; omega)).mono ?_
  rintro e w6 ⟨so, sc, rfl, A6⟩
  have A := hid A6
  clear A6
  generalize hR : rowB p.n p.a p.c p.k p.l = R at A ⊢
  generalize hL : R.length = L at A ⊢
  have HR := hid hR
  have HL := hid hL
  clear hR hL
  go_wp2
  go_ret
  obtain rfl := HL.out
  obtain rfl := HR.out
  refine ⟨so, sc, rfl, A.out.sublist (.cons_cons _ (.cons _ (.refl _)))⟩

theorem xtell_any {g : Nat} {ps : List Pl} {cs : List Comp} {w : World} (h : All (xrollL g ps ++ cs) w) (hok : OkP ps) (c : Int) : Calls Try.prog 35 #[.pointer (some ⟨g, 0, none⟩), .int .i64 c] w fun e w' => ∃ so sc, e = .returned (.slice so (atP ps c).bytes.length sc) ∧ All (ownC 5 (.slice so (atP ps c).bytes.length sc) (cellsB (atP ps c).bytes) :: (xrollL g ps ++ cs)) w' := by
  cases ho : (atP ps c).on with
  | false =>
    have eb : (atP ps c).bytes = [] := by simp [Pl.bytes, ho]
    rw [eb]
    exact (xtell_off hok.1 h ho).mono fun e w' ⟨h1, h2⟩ => ⟨none, 0, h1, h2.addNil⟩
  | true =>
    have hm := (hok.at c).may ho
    have eb : (atP ps c).bytes = rowB (atP ps c).n (atP ps c).a (atP ps c).c (atP ps c).k (atP ps c).l := by simp [Pl.bytes, ho]
    rw [eb]
    rcases at_cases hok.1 c with ⟨i, hc, hi, hp⟩ | ⟨hz, _⟩
    · have := xtell_on hok.1 h hp hi ho hm
      rw [← hc] at this
      exact this
    · rw [hz] at ho; cases ho
end Go.Proofs.Ytagdpfghooogfaa
