import Derived.Test.YtgmjjopfpenceaaRd
namespace Go.Proofs.Ytgmjjopfpenceaa
open Go.RowKit
set_option linter.unusedVariables false

theorem foldl_push (l : List UInt8) : ∀ s : ByteArray, (l.map fun b => (b.toNat : Int)).foldl (fun r n => r.push (UInt8.ofNat n.toNat)) s = ⟨s.data ++ l.toArray⟩ := by
  induction l with
  | nil => intro s; simp
  | cons c r ih =>
    intro s
    simp only [List.map_cons, List.foldl_cons]
    rw [ih]
    simp [ByteArray.push]
theorem conv_string {w : World} {ao : Option Addr} {n c : Nat} {l : List UInt8} (h : Reads w (.slice ao n c) l) : (convert 34 9 (.slice ao n c)).run Try.prog w = .ok (.string ⟨l.toArray⟩) w := by
  obtain ⟨ao, c, e, hc, hcase⟩ := h
  simp only [Value.slice.injEq] at e
  obtain ⟨rfl, rfl, rfl⟩ := e
  rw [run_convert_bytes_string w 34 9 5 _ l.length _ Try.underlying34 Try.underlying5 Try.underlying9]
  rcases hcase with ⟨rfl, h0⟩ | ⟨g, o, rfl, hg, hcell⟩
  · rcases ao with _ | a
    · obtain rfl := h0 rfl; rfl
    ·
      have hl : (loadCells a 0).run Try.prog w = .ok #[] w := by
        have := run_loadCells_list (P := Try.prog) w a [] (by simp)
        simpa using this
      rw [List.length_nil, run_bytesToString w a 0 c [] (by simpa using hl)]
      rfl
  · have hl : (loadCells ⟨g, o, none⟩ l.length).run Try.prog w = .ok (((l.map fun b => (b.toNat : Int)).map (Value.int .u8)).toArray) w := by
      have := run_loadCells_list (P := Try.prog) w ⟨g, o, none⟩ (cellsB l) (by simpa [Addr.add_lit] using hcell)
      rw [cellsB_length] at this
      simpa [cellsB, Function.comp_def] using this
    rw [run_bytesToString w ⟨g, o, none⟩ l.length _ _ hl, foldl_push]
    simp

theorem step_append_run {P : Program} {w : World} {ops : Array Oper} {o : Oper} {a : Act} {K : Act → World → Prop} {Q : Exit → Act → World → Prop} {E : Prop} (hgd : o.guard = none) (s x : Operand) (t : TypeId)
    (ho : o.op = .call { callee := .builtin .append, args := #[s, x], argTypes := #[t, t] }) (v1 v2 v' : Value) (w' : World) (hs : a.eval s = v1) (hx : a.eval x = v2)
    (hr : (Builtin.append_ #[t, t] o.type #[v1, v2]).run P w = .ok v' w') (h : K (a.put o.dst v') w') :
    if Region.wanted o (yielded ops a.tmps) = true then Oper.wp P o a w K Q else E := by
  have hw : Region.wanted o (yielded ops a.tmps) = true := by simp [Region.wanted, hgd]
  rw [if_pos hw]
  unfold Oper.wp execOp
  simp only [ho, resolve, invoke, builtin, Sem.run_bind, Sem.run_pure, Result.andThen_ok, List.map_toArray, List.map_cons, List.map_nil, hs, hx, hr]
  exact h

theorem reads_own {e : Value} {l : List UInt8} {cs : List Comp} {w : World} (h : All (ownC 5 e (cellsB l) :: cs) w) : Reads w e l := by
  have := h.1.2.1
  exact Reads.of_owns (base := 0) (by rw [← cellsB_length l]; exact this)

set_option maxHeartbeats 1600000 in
set_option maxRecDepth 1000000 in
theorem end_any {B : Nat} {st : Int} {wv dv : Value} {op es cd : Int} {ws : Ws} {wd : List UInt8} {cs : List Comp} {w : World} (h : All (rdL B st wv dv op es cd ws wd ++ cs) w) (hl : ws.length + 1 ≤ 1000000000000) :
    Calls Try.prog 16 #[ptr B] w fun e w' => e = .returned (.tuple #[]) ∧ ∃ wv', All (rdL B st wv' dv op es cd (ws ++ [wd]) wd ++ cs) w' := by
  have h := h.drew
  obtain ⟨⟨s0, s1, s2, s3, s4, s5⟩, hf⟩ := rd_cells h
  obtain ⟨ao0, c0, rfl⟩ := owns_form (h.tail.tail.1.2.1 : w.drew.ownsRow 0 5 1 dv _ _)
  obtain ⟨ao1, c1, rfl⟩ := owns_form (h.tail.1.2.1 : w.drew.ownsRow 0 9 1 wv _ _)
  have hBw : B < w.drew.heap.size := (h.1.2.2 B (by simp [blkC]))
  have cv := conv_string (reads_own h.tail.tail)
  have u1 : (w.alloc (.cells #[.string ⟨wd.toArray⟩] 9)).cell? ⟨B, 1, none⟩ = _ := cell_under (ba w.drew (.cells #[.string ⟨wd.toArray⟩] 9)) hBw s1
  obtain ⟨ao, c, w1, hr, A1⟩ := app_txt h.swap wd hl
  obtain ⟨⟨t0, t1, t2, t3, t4, t5⟩, hf1⟩ := rd_cells A1.swap
  have f1 := hf1 1
  have A2 := hid (A1.swap.setBlk 1 (.slice ao (ws.length + 1) c))
  rw [txW_length, cellsB_length] at *
  have R := hid hr
  clear hr A1 h hf1 hf
  generalize hn : wd.length = n at *
  clear hn
  generalize hm : ws.length = m at *
  clear hm
  generalize hx : ByteArray.mk wd.toArray = X at *
  clear hx
  go_enter Try.func16, Try.ntmps16
  go_wp2_with fail
  go_region_law (refine step_append_run (by rfl) (.tmp 6) (.tmp 12) 22 (by rfl) _ _ _ _ (by rfl) (by rfl) R.out ?_)
  all_goals (go_end0; exact ⟨rfl, _, A2.out⟩)
end Go.Proofs.Ytgmjjopfpenceaa
