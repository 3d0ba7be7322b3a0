import Derived.Test.YthjoppgomopkfaaRangeA
namespace Go.Proofs.Ythjoppgomopkfaa
open Go.RowKit Go.Shelf
attribute [local go_sem] Oper.semAt_some
set_option linter.unusedVariables false

theorem res4 {tmps : Array Value} {w : World} {b : Nat} {v : Bool} (ht : tmps.getD 6 undef = .pointer (some ⟨b, 0, none⟩)) (hc : w.cell? ⟨b, 0, none⟩ = some (.bool v)) : (results Try.f4 tmps).run Try.prog w = .ok (.bool v) w := by
  have hp' : tmps[6]?.getD undef = .pointer (some ⟨b, 0, none⟩) := by simpa using ht
  have hres : Try.f4.results = #[.cell 6 4] := rfl
  simp only [results, hres]
  go_simp

theorem finR {w W : World} {B6 D B : Nat} (hA : All [blkC B6 [.bool false] 4, inC w] W) (hB : w.heap.size ≤ B) (h6 : B6 < B) (hD : B ≤ D) (hK : W.heap[D]? = some (.deferred (some []))) :
    W.cell? ⟨B6, 0, none⟩ = some (.bool false) ∧ W.frozen? ⟨B6, 0, none⟩ = false ∧ Hid ((W.setCell ⟨B6, 0, none⟩ (.bool true)).heap[D]? = some (.deferred (some [])) ∧ ((W.setCell ⟨B6, 0, none⟩ (.bool true)).putObj D (.deferred none)).cell? ⟨B6, 0, none⟩ = some (.bool true) ∧ Below w.heap.size w ((W.setCell ⟨B6, 0, none⟩ (.bool true)).putObj D (.deferred none))) := by
  have e0 := hA.1.2.1
  have A2 := hA.setBlk 0 (.bool true)
  have hD' : (W.setCell ⟨B6, 0, none⟩ (.bool true)).heap[D]? = some (.deferred (some [])) := by
    rw [Below.heap_setCell _ _ _ _ (by intro e; have : D = B6 := e; omega)]
    exact hK
  have A3 := A2.recordO (grownBy_putObj' _ D (.deferred none)) (B := B) (fun r e => by cases e; exact ⟨hD, _, hD', rfl⟩) (.cons (blkC_cellsy _ _ _) (fun d hd => by
    rw [List.mem_singleton.1 hd]
    exact .inl (fun k hk => Nat.lt_of_lt_of_le (List.mem_range.1 hk) hB)))
  exact ⟨by rw [cell_at e0]; rfl, free_at e0 0, hid ⟨hD', by rw [cell_at A3.1.2.1]; rfl, A3.into (w0 := w) (by simp)⟩⟩

set_option maxRecDepth 1000000 in
set_option maxHeartbeats 4000000 in
theorem range_no {w : World} {fv : Value} {ao : Option Addr} {m c : Nat} (room : Int) (hroom : ¬ (1 ≤ room ∧ room ≤ 64)) : Calls Try.prog 4 #[.int .i64 room, fv, .slice ao m c] w fun e w' => e = .returned (.bool true) ∧ Below w.heap.size w w' := by
  have A6 := (((All.came w).addBlk [.slice ao m c] 22).addBlk [.bool true] 4).addBlk [.pointer none] 23
  have A7 := A6.addBlk [.pointer none] 27
  simp only [World.size_alloc] at A7
  have e1 := A7.tail.tail.1.2.1
  have E1 := hid e1
  have A7 := hid A7
  have H1 := hid (fun W : World => New_no (w := W) room hroom)
  have H2 := hid (fun W : World => rNew_no (w := W) room hroom)
  clear A6 e1
  go_enter Try.func4, Try.ntmps4
  go_wp2_with fail
  refine (H1.out _).mono ?_
  rintro e w1 ⟨rfl, rfl⟩
  go_wp2_with fail
  refine (H2.out _).mono ?_
  rintro e w2 ⟨rfl, rfl⟩
  go_wp2
  refine bodyPost_ret (v := .bool true) (res4 rfl ?_) rfl ⟨rfl, A7.out.into (w0 := w) (by simp)⟩
  rw [cell_at E1.out]; rfl
end Go.Proofs.Ythjoppgomopkfaa
