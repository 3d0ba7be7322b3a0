import Derived.Test.YtkcepkehgkkkbabGreatDoorJ43
import Derived.Test.YtkcepkehgkkkbabGreatDoorJ28
namespace Go.Proofs.YtkcepkehgkkkbabGreatDoor
open Go.RowKit
set_option linter.unusedVariables false

/-- A list of lists of bytes, as it is read. -/
def ReadsL (w : World) (v : Value) (L : List (List UInt8)) : Prop := ∃ ao c, v = .slice ao L.length c ∧ L.length ≤ c ∧ ∀ j (h : j < L.length), ∃ g u, ao = some ⟨g, 0, none⟩ ∧ w.cell? ⟨g, j, none⟩ = some u ∧ g < w.heap.size ∧ Reads w u L[j]
theorem ReadsL.below {w w' : World} {v : Value} {L : List (List UInt8)} (h : ReadsL w v L) (hb : Below w.heap.size w w') : ReadsL w' v L := by
  obtain ⟨ao, c, rfl, hc, hr⟩ := h
  refine ⟨ao, c, rfl, hc, fun j hj => ?_⟩
  obtain ⟨g, u, e, h1, h2, h3⟩ := hr j hj
  obtain ⟨_, _, _, b4, b5⟩ := hb
  have h4 : w'.heap[g]? = w.heap[g]? := b5 g h2
  refine ⟨g, u, e, ?_, Nat.lt_of_lt_of_le h2 b4, h3.kept b4 (fun k hk => b5 k (h3.block k hk))⟩
  rw [← h1]
  simp only [World.cell?, h4]
theorem readsL_of {w : World} {so : Option Addr} {n sc : Nat} {ls : BL} {cs : List Comp} (h : All (slsL (.slice so n sc) ls ++ cs) w) : ReadsL w (.slice so n sc) (ls.map Prod.snd) := by
  have hrow : w.ownsRow 0 25 1 (.slice so n sc) (ls.map Prod.fst).length (ls.map Prod.fst) := (h.mem (c := ownC 25 (.slice so n sc) (ls.map Prod.fst)) (by simp [slsL])).2.1
  have hl := owns_len hrow
  rw [List.length_map] at hl
  refine ⟨so, sc, by rw [List.length_map, hl.1], by rw [List.length_map]; omega, fun j hj => ?_⟩
  rw [List.length_map] at hj
  obtain ⟨g, e, hc, _⟩ := owns_at hrow (k := j) (u := ls[j].1) (by rw [List.getElem?_map, List.getElem?_eq_getElem hj]; rfl)
  have hg : g < w.heap.size := (h.mem (c := ownC 25 (.slice so n sc) (ls.map Prod.fst)) (by simp [slsL])).2.2 g (by rw [e]; simp [ownC, Value.ownBlock])
  refine ⟨g, ls[j].1, e, hc, hg, ?_⟩
  have hp := (h.mem (c := ownC 5 ls[j].1 (cellsB ls[j].2)) (by
    refine List.mem_append_left _ (List.mem_cons_of_mem _ ?_)
    exact List.mem_map.2 ⟨ls[j], List.getElem_mem hj, rfl⟩)).2.1
  have hr : w.ownsRow 0 5 1 ls[j].1 (cellsB ls[j].2).length (cellsB ls[j].2) := hp
  have hcl : (cellsB ls[j].2).length = ls[j].2.length := by simp [cellsB]
  rw [hcl] at hr
  simpa using Reads.of_owns hr

set_option maxHeartbeats 1600000 in
set_option maxRecDepth 1000000 in
/-- Slots that are alike. -/
theorem sameSlots_true {w : World} {v v' : Value} {L : List (List UInt8)} (h : ReadsL w v L) (h' : ReadsL w v' L) (hs : ∀ l ∈ L, l.length ≤ 140737488355328) (hL : L.length ≤ 8) :
    Calls Tryz.prog 9 #[v, v'] w fun e w' => e = .returned (.bool true) ∧ Below w.heap.size w w' := by
  have H := hid h
  have H' := hid h'
  obtain ⟨ao, c, rfl, _, _⟩ := h
  obtain ⟨ao', c', rfl, _, _⟩ := h'
  have HB := hid hs
  clear hs
  go_enter Tryz.func9, Tryz.ntmps9
  go_wp2
  go_loopw [5] (fun iv wr => ∃ (k : Nat), k ≤ L.length ∧ iv = .int .i64 (k : Int) ∧ Hid (Below w.heap.size w wr)) (fun iv _ => L.length - (intOf iv).toNat)
  case atStart => exact ⟨0, by omega, rfl, hid (Below.refl _ _)⟩
  case round =>
    obtain ⟨k, hk, rfl, BR⟩ := hrel
    by_cases hlt : k < L.length
    · obtain ⟨x1, y1, ex, _, hx⟩ := H.out.below BR.out
      obtain ⟨x2, y2, ey, _, hy⟩ := H'.out.below BR.out
      cases ex
      cases ey
      obtain ⟨g, u, rfl, e1, _, R1⟩ := hx k hlt
      obtain ⟨g', u', rfl, e2, _, R2⟩ := hy k hlt
      have ST : Hid (∀ q, Calls Tryz.prog 19 #[u, u'] (wr.drewN q) fun e w' => e = .returned (.bool true) ∧ ∃ m, w' = (wr.drewN q).drewN m) := hid (fun q => by
        have hd := same_dec (R1.kept (bdN wr q).size (fun k hk => (bdN wr q).block k (R1.block k hk))) (R2.kept (bdN wr q).size (fun k hk => (bdN wr q).block k (R2.block k hk))) (HB.out _ (List.getElem_mem hlt))
        rw [decide_eq_true rfl] at hd
        exact hd)
      obtain ⟨ua, uc, rfl⟩ := R1.form
      obtain ⟨ua', uc', rfl⟩ := R2.form
      clear hx hy R1 R2
      generalize L[k].length = un at *
      have k1 : (0 : Int) ≤ (k : Int) := by omega
      have k2 : (k : Int) < (L.length : Int) := by omega
      go_wp2_with fail
      go_quiet (first | (go_at_call 19; exact Calls.quiet_of (ST.out _)))
      go_wp2
      go_roundw
      case rel => exact ⟨k + 1, by omega, by go_num, hid (BR.out.trans ((bdN wr nq).mono BR.out.size))⟩
      case measure => simp [intOf]; omega
    · go_wp2
      go_ret
      exact ⟨rfl, BR.out⟩
end Go.Proofs.YtkcepkehgkkkbabGreatDoor
