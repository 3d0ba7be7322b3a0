import Derived.Test.YtagdpfghooogfaaJ4
namespace Go.Proofs.Ytagdpfghooogfaa
open Go.RowKit
set_option linter.unusedVariables false

theorem toList_loop (b : ByteArray) : ∀ (d i : Nat) (r : List UInt8), b.size - i = d → ByteArray.toList.loop b i r = r.reverse ++ b.data.toList.drop i := by
  intro d
  induction d with
  | zero =>
    intro i r h
    unfold ByteArray.toList.loop
    rw [if_neg (by omega), List.drop_of_length_le (by rw [str_len]; omega)]
    simp
  | succ d ih =>
    intro i r h
    unfold ByteArray.toList.loop
    rw [if_pos (by omega), ih (i + 1) _ (by omega)]
    have hi : i < b.data.toList.length := by rw [str_len]; omega
    rw [List.drop_eq_getElem_cons hi]
    simp only [List.reverse_cons, List.append_assoc, List.cons_append, List.nil_append]
    congr 2
    simp only [ByteArray.get!, Array.getElem_toList]
    exact getElem!_pos b.data i (by simpa using hi)
theorem toList_inj {s t : ByteArray} (h : s.toList = t.toList) : s = t := by
  unfold ByteArray.toList at h
  rw [toList_loop s _ 0 [] rfl, toList_loop t _ 0 [] rfl] at h
  simp at h
  cases s; cases t
  simpa using h

theorem two_below (w : World) (o p : Obj) : Below w.heap.size w ((w.alloc o).alloc p) := (ba _ _).trans ((ba _ _).mono (by simp))

set_option maxHeartbeats 3200000 in
set_option maxRecDepth 1000000 in
theorem sameRow_any {w : World} {n a c k n' a' c' k' : Int} {s s' : Value} {l l' : List ByteArray} (h : Txts w s l) (h' : Txts w s' l') (hl : l.length ≤ 9223372036854775807) :
    Calls Try.prog 24 #[rowV n a c k s, rowV n' a' c' k' s'] w fun e w' => e = .returned (.bool (decide (n = n' ∧ a = a' ∧ c = c' ∧ k = k' ∧ l = l'))) ∧ Below w.heap.size w w' := by
  obtain ⟨ao, cp, rfl⟩ := h.form
  obtain ⟨ao', cp', rfl⟩ := h'.form
  have HT := hid h
  have HT' := hid h'
  clear h h'
  by_cases h1 : n = n'
  case neg =>
    have F : decide (n = n' ∧ a = a' ∧ c = c' ∧ k = k' ∧ l = l') = false := by simp [h1]
    have e1 : (n != n') = true := by simpa using h1
    rw [F]
    clear F
    go_enter Try.func24, Try.ntmps24
    go_wp2
    go_ret
    exact ⟨rfl, two_below _ _ _⟩
  have e1 : (n != n') = false := by simpa using h1
  by_cases h2 : a = a'
  case neg =>
    have F : decide (n = n' ∧ a = a' ∧ c = c' ∧ k = k' ∧ l = l') = false := by simp [h2]
    have e2 : (a != a') = true := by simpa using h2
    rw [F]
    clear F h1
    go_enter Try.func24, Try.ntmps24
    go_wp2
    go_ret
    exact ⟨rfl, two_below _ _ _⟩
  have e2 : (a != a') = false := by simpa using h2
  by_cases h3 : c = c'
  case neg =>
    have F : decide (n = n' ∧ a = a' ∧ c = c' ∧ k = k' ∧ l = l') = false := by simp [h3]
    have e3 : (c != c') = true := by simpa using h3
    rw [F]
    clear F h1 h2
    go_enter Try.func24, Try.ntmps24
    go_wp2
    go_ret
    exact ⟨rfl, two_below _ _ _⟩
  have e3 : (c != c') = false := by simpa using h3
  by_cases h4 : k = k'
  case neg =>
    have F : decide (n = n' ∧ a = a' ∧ c = c' ∧ k = k' ∧ l = l') = false := by simp [h4]
    have e4 : (k != k') = true := by simpa using h4
    rw [F]
    clear F h1 h2 h3
    go_enter Try.func24, Try.ntmps24
    go_wp2
    go_ret
    exact ⟨rfl, two_below _ _ _⟩
  have e4 : (k != k') = false := by simpa using h4
  have F0 : Hid (decide (n = n' ∧ a = a' ∧ c = c' ∧ k = k' ∧ l = l') = decide (l = l')) := hid (by simp [h1, h2, h3, h4])
  rw [F0.out]
  clear F0 h1 h2 h3 h4
  by_cases h5 : l.length = l'.length
  case neg =>
    have F : decide (l = l') = false := by simp; exact fun h => h5 (congrArg _ h)
    have e5 : ((l.length : Int) != (l'.length : Int)) = true := by simp; omega
    rw [F]
    clear F h5
    go_enter Try.func24, Try.ntmps24
    go_wp2
    go_ret
    exact ⟨rfl, two_below _ _ _⟩
  obtain ⟨m, hm⟩ : ∃ m, Hid (m = l.length ∧ m = l'.length) := ⟨_, hid ⟨rfl, h5⟩⟩
  have hml : m ≤ 9223372036854775807 := by rw [hm.out.1]; exact hl
  rw [← hm.out.1, ← hm.out.2]
  rw [← hm.out.1] at HT
  rw [← hm.out.2] at HT'
  clear h5 hl
  go_enter Try.func24, Try.ntmps24
  go_wp2
  have A0 := hid (((All.came w).addBlk [.int .i64 n, .int .i64 a, .int .i64 c, .int .i64 k, .slice ao m cp] 39).addBlk [.int .i64 n', .int .i64 a', .int .i64 c', .int .i64 k', .slice ao' m cp'] 39)
  simp only [World.size_alloc] at A0
  go_loopw [5] (fun iv wr => ∃ i : Nat, iv = .int .i64 (i : Int) ∧ i ≤ m ∧ Hid (∀ j (hj : j < i) (h1 : j < l.length) (h2 : j < l'.length), l[j] = l'[j]) ∧ Hid (All [blkC (w.heap.size + 1) [.int .i64 n', .int .i64 a', .int .i64 c', .int .i64 k', .slice ao' m cp'] 39, blkC w.heap.size [.int .i64 n, .int .i64 a, .int .i64 c, .int .i64 k, .slice ao m cp] 39, inC w] wr)) (fun iv _ => m - (intOf iv).toNat)
  case atStart => exact ⟨0, rfl, Nat.zero_le _, hid (fun j hj => by omega), A0⟩
  case round =>
    obtain ⟨i, rfl, hi, hbef, AR⟩ := hrel
    clear A0
    have hB : Below w.heap.size w wr := AR.out.into (by simp)
    have erx := AR.out.blk (g := w.heap.size) (vs := [.int .i64 n, .int .i64 a, .int .i64 c, .int .i64 k, .slice ao m cp]) (t := 39) (by simp)
    have x0 : wr.cell? ⟨w.heap.size, 0, none⟩ = some (.int .i64 n) := by rw [cell_at erx]; rfl
    have x1 : wr.cell? ⟨w.heap.size, 1, none⟩ = some (.int .i64 a) := by rw [cell_at erx]; rfl
    have x2 : wr.cell? ⟨w.heap.size, 2, none⟩ = some (.int .i64 c) := by rw [cell_at erx]; rfl
    have x3 : wr.cell? ⟨w.heap.size, 3, none⟩ = some (.int .i64 k) := by rw [cell_at erx]; rfl
    have x4 : wr.cell? ⟨w.heap.size, 4, none⟩ = some (.slice ao m cp) := by rw [cell_at erx]; rfl
    clear erx
    have ery := AR.out.1.2.1
    have y0 : wr.cell? ⟨w.heap.size + 1, 0, none⟩ = some (.int .i64 n') := by rw [cell_at ery]; rfl
    have y1 : wr.cell? ⟨w.heap.size + 1, 1, none⟩ = some (.int .i64 a') := by rw [cell_at ery]; rfl
    have y2 : wr.cell? ⟨w.heap.size + 1, 2, none⟩ = some (.int .i64 c') := by rw [cell_at ery]; rfl
    have y3 : wr.cell? ⟨w.heap.size + 1, 3, none⟩ = some (.int .i64 k') := by rw [cell_at ery]; rfl
    have y4 : wr.cell? ⟨w.heap.size + 1, 4, none⟩ = some (.slice ao' m cp') := by rw [cell_at ery]; rfl
    clear ery
    by_cases hlt : i < m
    case neg =>
      have el : decide ((i : Int) < (m : Int)) = false := by simp; omega
      clear hB
      go_wp2
      go_ret
      refine ⟨?_, AR.out.into (by simp)⟩
      have : decide (l = l') = true := by
        simp only [decide_eq_true_eq]
        refine List.ext_getElem (hm.out.1.symm.trans hm.out.2) fun j h1 h2 => hbef.out j (by have := hm.out.1; omega) h1 h2
      rw [this]
      rfl
    have el : decide ((i : Int) < (m : Int)) = true := by simpa using hlt
    have hi1 : i < l.length := by rw [← hm.out.1]; exact hlt
    have hi2 : i < l'.length := by rw [← hm.out.2]; exact hlt
    obtain ⟨g1, o1, ea1, hg1, hc1⟩ := (HT.out.later hB).at hi1
    obtain ⟨g2, o2, ea2, hg2, hc2⟩ := (HT'.out.later hB).at hi2
    subst ea1
    subst ea2
    have HE : Hid (l[i] = l'[i] → ∀ j (hj : j < i + 1) (h1 : j < l.length) (h2 : j < l'.length), l[j] = l'[j]) := hid (fun he j hj h1 h2 => by
      rcases Nat.lt_succ_iff_lt_or_eq.1 hj with h | h
      · exact hbef.out j h h1 h2
      · subst h; exact he)
    have HN : Hid (l[i] ≠ l'[i] → decide (l = l') = false) := hid (fun hne => by
      simp only [decide_eq_false_iff_not]
      intro hh
      subst hh
      exact hne rfl)
    generalize l[i] = t1 at hc1 HE HN
    generalize l'[i] = t2 at hc2 HE HN
    by_cases he : t1 = t2
    · subst he
      have HE2 := hid (HE.out rfl)
      have hb : (t1.toList == t1.toList) = true := by simp
      clear HN HE hbef hB hi1 hi2
      go_wp2_with fail
      go_quiet (fail)
      have AR := hid (AR.out.drewN nq)
      clear x0 x1 x2 x3 x4 y0 y1 y2 y3 y4 hc1 hc2
      go_wp2
      go_roundw
      case rel => exact ⟨i + 1, by go_num, by omega, HE2, AR⟩
      case measure => simp [intOf]; omega
    · have HN2 := hid (HN.out he)
      have hb : (t1.toList == t2.toList) = false := by
        rw [beq_eq_false_iff_ne]
        exact fun h => he (toList_inj h)
      clear HE HN he hbef hB hi1 hi2
      go_wp2_with fail
      go_quiet (fail)
      have AR := hid (AR.out.drewN nq)
      clear x0 x1 x2 x3 x4 y0 y1 y2 y3 y4 hc1 hc2
      go_wp2
      go_ret
      rw [HN2.out]
      exact ⟨rfl, AR.out.into (by simp)⟩

end Go.Proofs.Ytagdpfghooogfaa
