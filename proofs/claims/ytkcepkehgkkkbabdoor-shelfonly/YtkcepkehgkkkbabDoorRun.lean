import Derived.Test.YtkcepkehgkkkbabDoorItems2
namespace Go.Proofs.YtkcepkehgkkkbabDoor
open Go.RowKit
set_option linter.unusedVariables false

theorem hid {p : Prop} (h : p) : Hid p := h

/-- What is behind the number, as bytes. -/
theorem Reads.part {w : World} {g o c : Nat} {rs : List UInt8} (h : Reads w (.slice (some ⟨g, o, none⟩) rs.length c) rs) (sz n cap : Nat) (hs : sz + n ≤ rs.length) (hn : n ≤ cap) :
    Reads w (.slice (some ⟨g, o + sz, none⟩) n cap) ((rs.drop sz).take n) := by
  obtain ⟨ao', c', e, hc, hcase⟩ := h
  simp only [Value.slice.injEq] at e
  obtain ⟨rfl, _, rfl⟩ := e
  rcases hcase with ⟨hf, _⟩ | ⟨g', o', e, hg, hcell⟩
  · cases hf
  · simp only [Option.some.injEq, Addr.mk.injEq] at e
    obtain ⟨rfl, rfl, _⟩ := e
    have hl : ((rs.drop sz).take n).length = n := by simp; omega
    refine ⟨_, cap, by rw [hl], by rw [hl]; exact hn, Or.inr ⟨_, _, rfl, hg, fun j u hu => ?_⟩⟩
    have hj : j < n := by
      have := (List.getElem?_eq_some_iff.1 hu).1
      rw [cellsB_length, hl] at this
      exact this
    have := hcell (sz + j) u (by rw [← hu]; simp [cellsB, hj])
    rw [Nat.add_assoc]
    exact this

theorem Reads.empty {w : World} (g o cap : Nat) (hg : g < w.heap.size) : Reads w (.slice (some ⟨g, o, none⟩) 0 cap) [] :=
  ⟨_, cap, rfl, by simp, Or.inr ⟨g, o, rfl, hg, fun j u hu => by simp [cellsB] at hu⟩⟩

theorem Reads.nil (w : World) : Reads w (.slice none 0 0) [] := ⟨none, 0, rfl, by simp, Or.inl ⟨rfl, rfl, rfl⟩⟩

theorem numR_nil (rs : List UInt8) (most : Int) : rs = [] → (numR rs most 14).2.2 ≠ 0 := by
  intro h
  subst h
  simp [numR, look]

theorem Reads.lt {w : World} {g o n c : Nat} {l : List UInt8} (h : Reads w (.slice (some ⟨g, o, none⟩) n c) l) : g < w.heap.size := h.block g rfl

theorem cut_run (g o m q cq : Nat) (hq : m ≤ cq) (h0 : 0 < cq) (w : World) : (Instr.slice 43 (.slice (some ⟨g, o, none⟩) q cq) none (some (.int .i64 (m : Int))) none).run Tryd.prog w = .ok (.slice (some ⟨g, o, none⟩) m cq) w := by
  rw [run_slice_h w 43 (some ⟨g, o, none⟩) q cq (by kernel_rfl) .i64 (m : Int) (by omega) (by omega)]
  have hs : (sizeOf (Tryd.prog.elem 43)).run Tryd.prog w = .ok 1 w := by kernel_rfl
  rw [hs]
  simp [sliced, Result.andThen, Addr.add_lit]

end Go.Proofs.YtkcepkehgkkkbabDoor
