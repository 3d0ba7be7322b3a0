import Derived.Test.YtgmjjopfpenceaaDoorChkA
import Derived.Test.YtgmjjopfpenceaaDoorNum2
import Derived.Test.YtgmjjopfpenceaaDoorDig
namespace Go.Proofs.YtgmjjopfpenceaaDoor
open Go.RowKit
set_option linter.unusedVariables false

/-- Where a word stands in a list from a place on. -/
def findW (x : List UInt8) : Nat → Ws → Option Nat
  | _, [] => none
  | k, y :: r => if y = x then some k else findW x (k + 1) r
theorem findW_at {x : List UInt8} {k : Nat} {l : Ws} (hk : k < l.length) : findW x k (l.drop k) = if l.getD k [] = x then some k else findW x (k + 1) (l.drop (k + 1)) := by
  rw [List.drop_eq_getElem_cons hk, findW]
  simp [List.getD, hk]
/-- A place, or -1. -/
def idxI (o : Option Nat) : Int := match o with | none => -1 | some k => (k : Int)
/-- Texts laid behind one's own. -/
theorem appR {W : World} {v v2 : Value} {l l2 : Ws} {cs : List Comp} (A : All (ownC 9 v (txW l) :: cs) W) (h2 : Rt W v2 l2) (hl : (l.length + l2.length) * 16 ≤ 140737488355328) :
    ∃ ao c w', (Builtin.append_ #[28, 28] 28 #[v, v2]).run Tryd.prog W = .ok (.slice ao (l.length + l2.length) c) w' ∧ All (ownC 9 (.slice ao (l.length + l2.length) c) (txW (l ++ l2)) :: cs) w' := by
  obtain ⟨i1, hi1, hz0, hz1, hz2⟩ := info_parts Tryd.info9
  obtain ⟨ao2, c2, rfl, hc2, hx⟩ := h2
  have hown : W.ownsRow 0 9 1 v (txW l).length (txW l) := A.1.2.1
  obtain ⟨ao, c, rfl⟩ := owns_form hown
  have e1 : txW (l ++ l2) = txW l ++ txW l2 := by simp [txW]
  rcases hx with rfl | ⟨g, o, rfl, hg, hcell⟩
  · refine ⟨ao, c, W, ?_, ?_⟩
    · have := run_append_nothing W 28 28 28 9 i1 Tryd.underlying28 hi1 ao (txW l).length c (owns_len hown).2 (.slice ao2 0 c2) (srcNil Tryd.underlying28 ao2 c2)
      simpa [txW_length] using this
    · rw [txW_length] at A
      simpa using A
  · have k1 : (txW l).length + l2.length ≤ maxLen := by rw [txW_length]; unfold maxLen; omega
    have k2 : ((txW l).length + l2.length) * 16 ≤ 140737488355328 := by rw [txW_length]; omega
    have k3 : (txW l2).length = l2.length * 1 := by rw [txW_length]; omega
    have k4 : ∀ u ∈ txW l2, u.oneCell' = true := fun u hu => by
      obtain ⟨y, _, rfl⟩ := List.mem_map.1 hu
      rfl
    obtain ⟨v', w', hr, h2, h3, h4, h5⟩ := run_append_own_at (P := Tryd.prog) W 0 28 28 9 i1 (.string ⟨#[]⟩) 1 16 Tryd.underlying28 hi1 hz0 hz1 hz2 rfl (by decide) (.slice ao (txW l).length c) (txW l).length (txW l) hown ⟨g, o, none⟩ l2.length c2 (txW l2) k3
      (fun j u hu => by
        have hj : j < l2.length := by rw [← txW_length]; exact (List.getElem?_eq_some_iff.1 hu).1
        rw [Addr.add_lit, hcell j hj, ← hu]
        simp [txW, hj]) k4 k1 k2 (Nat.zero_le _)
    obtain ⟨ao', c', rfl⟩ := owns_form h2
    have el : (txW l).length + l2.length = l.length + l2.length := by rw [txW_length]
    rw [el] at hr h2 h5
    refine ⟨ao', c', w', hr, A.ownGrow (vs' := txW (l ++ l2)) (base := 0) ?_ h3 h5⟩
    rw [e1, List.length_append, txW_length, txW_length]
    exact h2
theorem own_new {W : World} {cs : List Comp} (A : All cs W) (m : Ws) (hm : m.length ≤ 1000) : All (ownC 9 (.slice (some ⟨W.heap.size, 0, none⟩) m.length m.length) (txW m) :: cs) (W.alloc (.cells (txW m).toArray 9)) := by
  refine A.addOwn (ba W _) ⟨by simp, Or.inr ⟨W.heap.size, m.length, (txW m).toArray, by rw [txW_length], Nat.le_refl _, heap_alloc_new W _, by rw [txW_length]; omega, by unfold maxLen; omega, by simp [txW_length], by simp⟩⟩

set_option maxRecDepth 1000000 in
/-- A list of its own of a word and those behind it. -/
theorem row_any {x : List UInt8} {v : Value} {l : Ws} {cs : List Comp} {w : World} (A : All cs w) (h : Rt w v l) (hl : (1 + l.length) * 16 ≤ 140737488355328) :
    Calls Tryd.prog 20 #[.string ⟨x.toArray⟩, v] w fun e w' => ∃ ao c, e = .returned (.slice ao (1 + l.length) c) ∧ All (ownC 9 (.slice ao (1 + l.length) c) (txW (x :: l)) :: cs) w' := by
  obtain ⟨ao, c, w', hr, A2⟩ := appR (own_new A [x] (by simp)) (h.later (ba w _)) (by simpa using hl)
  obtain ⟨ao0, c0, rfl⟩ := h.form
  have R : Hid ((Builtin.append_ #[28, 28] 28 #[.slice (some ⟨w.heap.size, 0, none⟩) 1 1, .slice ao0 l.length c0]).run Tryd.prog (w.alloc (.cells #[.string ⟨x.toArray⟩] 9)) = .ok (.slice ao (1 + l.length) c) w') := hid hr
  have B := hid A2
  clear hr A2 A h hl
  generalize hn : l.length = n at *
  clear hn
  generalize ByteArray.mk x.toArray = X at *
  go_enter Tryd.func20, Tryd.ntmps20
  go_wp2_with (at_builtin; refine wpList_append_run rfl _ _ 28 rfl _ _ _ _ rfl rfl R.out ?_)
  go_ret
  exact ⟨ao, c, rfl, B.out⟩

set_option maxHeartbeats 1600000 in
set_option maxRecDepth 1000000 in
theorem index_any {v : Value} {l : Ws} {x : List UInt8} {w : World} {f : Nat} (h : Rt w v l) (hl : l.length ≤ 140737488355328) (hf : f ≤ l.length) :
    Calls Tryd.prog 25 #[v, .int .i64 (f : Int), .string ⟨x.toArray⟩] w fun e w' => e = .returned (.int .i64 (idxI (findW x f (l.drop f)))) ∧ w' = w := by
  obtain ⟨ao, c, rfl⟩ := h.form
  have HS := hid h
  have EQ : Hid (∀ k, ((⟨(l.getD k []).toArray⟩ : ByteArray).toList == (⟨x.toArray⟩ : ByteArray).toList) = decide (l.getD k [] = x)) := hid (fun k => ba_ne)
  have FA : Hid (∀ k, k < l.length → findW x k (l.drop k) = if l.getD k [] = x then some k else findW x (k + 1) (l.drop (k + 1))) := hid (fun k hk => findW_at hk)
  have FE : Hid (findW x l.length (l.drop l.length) = none) := hid (by rw [List.drop_length]; rfl)
  generalize hA : findW x f (l.drop f) = A
  have HA := hid hA
  clear hA h
  generalize hn : l.length = n at *
  have HN := hid hn
  clear hn
  generalize hX : ByteArray.mk x.toArray = X at *
  go_enter Tryd.func25, Tryd.ntmps25
  go_wp2
  go_loopw [7] (fun iv wr => ∃ k : Nat, k ≤ n ∧ iv = .int .i64 (k : Int) ∧ wr = w ∧ Hid (findW x k (l.drop k) = A)) (fun iv _ => n - (intOf iv).toNat)
  case atStart => exact ⟨f, hf, rfl, rfl, HA⟩
  case round =>
    obtain ⟨k, hk, rfl, rfl, hR⟩ := hrel
    clear HA
    by_cases hlt : k < n
    · have hlt' : (k : Int) < (n : Int) := by omega
      obtain ⟨g, o, rfl, _, h1⟩ := HS.out.at (j := k) (by rw [HN.out]; exact hlt)
      have eq := EQ.out k
      by_cases hx : l.getD k [] = x
      · rw [decide_eq_true hx] at eq
        have fin : Hid (A = some k) := hid (by rw [← hR.out, FA.out k hlt, if_pos hx])
        generalize ByteArray.mk (l.getD k []).toArray = Y at *
        clear hx
        go_wp2
        go_ret
        exact ⟨by rw [fin.out]; rfl, rfl⟩
      · rw [decide_eq_false hx] at eq
        have nx : Hid (findW x (k + 1) (l.drop (k + 1)) = A) := hid (by rw [← hR.out, FA.out k hlt, if_neg hx])
        generalize ByteArray.mk (l.getD k []).toArray = Y at *
        clear hx
        go_wp2
        go_roundw
        case rel => exact ⟨k + 1, by omega, by go_num, trivial, nx⟩
        case measure => simp [intOf]; omega
    · have hlt' : ¬ (k : Int) < (n : Int) := by omega
      have ek : k = n := by omega
      have fin : Hid (A = none) := hid (by rw [← hR.out, ek]; exact FE.out)
      clear ek
      go_wp2
      go_ret
      exact ⟨by rw [fin.out]; rfl, rfl⟩

end Go.Proofs.YtgmjjopfpenceaaDoor
