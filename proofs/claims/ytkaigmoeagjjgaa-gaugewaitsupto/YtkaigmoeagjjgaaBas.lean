import Derived.Test.YtkaigmoeagjjgaaShelf
import Derived.Test.YtkaigmoeagjjgaaFlw
import Derived.Laws.FloatArith
namespace Go.Proofs.Ytkaigmoeagjjgaa
open Go.RowKit
set_option linter.unusedVariables false

abbrev ints (xs : List Int) : List Value := xs.map (Value.int .i64)
theorem ints_one (xs : List Int) : ∀ v ∈ ints xs, v.oneCell' = true := by
  intro v hv
  obtain ⟨x, _, rfl⟩ := List.mem_map.1 hv
  rfl

/-- A slice of numbers that is read. -/
def IntsAt (w : World) (v : Value) (xs : List Int) : Prop :=
  ∃ ao cap, v = .slice ao xs.length cap ∧ xs.length ≤ cap ∧ ((xs = [] ∧ (ao = none → cap = 0)) ∨ ∃ b off, ao = some ⟨b, off, none⟩ ∧ b < w.heap.size ∧ ∀ j u, (ints xs)[j]? = some u → w.cell? ⟨b, off + j, none⟩ = some u)
theorem IntsAt.later {w w' : World} {v : Value} {xs : List Int} (h : IntsAt w v xs) (hb : Below w.heap.size w w') : IntsAt w' v xs := by
  obtain ⟨ao, cap, e, hc, h | ⟨b, off, e2, hlt, hcell⟩⟩ := h
  · exact ⟨ao, cap, e, hc, .inl h⟩
  · exact ⟨ao, cap, e, hc, .inr ⟨b, off, e2, Nat.lt_of_lt_of_le hlt hb.size, fun j u hu => (hb.cell (p := ⟨b, off + j, none⟩) hlt).trans (hcell j u hu)⟩⟩
theorem IntsAt.form {w : World} {v : Value} {xs : List Int} (h : IntsAt w v xs) : ∃ ao cap, v = .slice ao xs.length cap := by
  obtain ⟨ao, cap, e, _⟩ := h
  exact ⟨ao, cap, e⟩
theorem IntsAt.at {w : World} {ao : Option Addr} {n c : Nat} {xs : List Int} (h : IntsAt w (.slice ao n c) xs) {i : Nat} {x : Int} (hx : xs[i]? = some x) : ∃ b off, ao = some ⟨b, off, none⟩ ∧ b < w.heap.size ∧ w.cell? ⟨b, off + i, none⟩ = some (.int .i64 x) := by
  obtain ⟨ao', c', e, _, ⟨rfl, _⟩ | ⟨b, off, rfl, hb, hc⟩⟩ := h
  · simp at hx
  · simp only [Value.slice.injEq] at e
    obtain ⟨rfl, _, _⟩ := e
    exact ⟨b, off, rfl, hb, hc i _ (by simp [hx])⟩
theorem IntsAt.cap {w : World} {ao : Option Addr} {n c : Nat} {xs : List Int} (h : IntsAt w (.slice ao n c) xs) : xs.length ≤ c ∧ n = xs.length := by
  obtain ⟨ao', c', e, h, _⟩ := h
  simp only [Value.slice.injEq] at e
  exact ⟨by omega, e.2.1⟩

/-- numbers that an int holds -/
def Sm (xs : List Int) : Prop := ∀ x ∈ xs, -9223372036854775808 ≤ x ∧ x < 9223372036854775808
theorem Sm.abs {xs : List Int} (h : Sm xs) {x : Int} (hx : x ∈ xs) : x.natAbs ≤ 2 ^ 63 := by
  have := h x hx
  have e : (2:Nat) ^ 63 = 9223372036854775808 := by decide
  omega

def fadd (x y : Nat) : Nat := (Ieee.double.add x y).getD 0
def fsub (x y : Nat) : Nat := (Ieee.double.sub x y).getD 0
def fmul (x y : Nat) : Nat := (Ieee.double.mul x y).getD 0
def fdiv (x y : Nat) : Nat := (Ieee.double.div x y).getD 0
def fsqr (x : Nat) : Nat := (Ieee.double.sqrt x).getD 0
theorem fx_eq (n : Int) : floatOfInt .f64 n = Flt.fx n := rfl

/-! sums -/
def sumF (l : List Int) : Nat := l.foldl (fun s x => fadd s (Flt.fx x)) 0
theorem sumF_snoc (l : List Int) (x : Int) : sumF (l ++ [x]) = fadd (sumF l) (Flt.fx x) := by simp [sumF]
theorem zero_nn : Flt.NN 0 := by unfold Flt.NN; decide +kernel
theorem zero_pos : Flt.Pos 0 := by unfold Flt.Pos; decide +kernel
theorem fx_fn {x : Int} (h : x.natAbs ≤ 2 ^ 63) : Flt.Fn (Flt.fx x) := ⟨_, Flt.fx_Is x h⟩
theorem add_some {s x : Nat} (hs : Flt.NN s) (hx : Flt.Fn x) : Ieee.double.add s x = some (fadd s x) ∧ Flt.NN (fadd s x) := by
  obtain ⟨w, h1, h2⟩ := Flt.add_nn hs hx
  have : fadd s x = w := by unfold fadd; rw [h1]; rfl
  rw [this]; exact ⟨h1, h2⟩
theorem sub_some {s x : Nat} (hx : Flt.Fn x) (hs : Flt.NN s) : Ieee.double.sub x s = some (fsub x s) ∧ Flt.NN (fsub x s) := by
  obtain ⟨w, h1, h2⟩ := Flt.sub_nn hx hs
  have : fsub x s = w := by unfold fsub; rw [h1]; rfl
  rw [this]; exact ⟨h1, h2⟩
theorem sq_some {x : Nat} (hx : Flt.NN x) : Ieee.double.mul x x = some (fmul x x) ∧ Flt.Pos (fmul x x) := by
  obtain ⟨w, h1, h2⟩ := Flt.sq_pos hx
  have : fmul x x = w := by unfold fmul; rw [h1]; rfl
  rw [this]; exact ⟨h1, h2⟩
theorem addp_some {x y : Nat} (hx : Flt.Pos x) (hy : Flt.Pos y) : Ieee.double.add x y = some (fadd x y) ∧ Flt.Pos (fadd x y) := by
  obtain ⟨w, h1, h2⟩ := Flt.add_pos hx hy
  have : fadd x y = w := by unfold fadd; rw [h1]; rfl
  rw [this]; exact ⟨h1, h2⟩
theorem div_some {x : Nat} {n : Nat} (hx : Flt.NN x) (hn : 0 < n) (hb : n ≤ 4096) : Ieee.double.div x (Flt.fx n) = some (fdiv x (Flt.fx n)) ∧ Flt.NN (fdiv x (Flt.fx n)) ∧ (Flt.Pos x → Flt.Pos (fdiv x (Flt.fx n))) := by
  have hB : (4096 : Nat) ≤ 2 * Flt.B := by decide
  have hp : 0 < Flt.one := by unfold Flt.one; exact_mod_cast Nat.two_pow_pos Flt.eo
  obtain ⟨w, h1, h2, h3⟩ := Flt.div_nn hx (Flt.fx_Is' (x := (n : Int)) (by omega)) (Int.mul_pos (by omega) hp)
  have : fdiv x (Flt.fx n) = w := by unfold fdiv; rw [h1]; rfl
  rw [this]; exact ⟨h1, h2, h3⟩
theorem sqr_some {x : Nat} (hx : Flt.Pos x) : Ieee.double.sqrt x = some (fsqr x) ∧ Flt.NN (fsqr x) := by
  obtain ⟨w, h1, h2⟩ := Flt.sqrt_nn hx
  have : fsqr x = w := by unfold fsqr; rw [h1]; rfl
  rw [this]; exact ⟨h1, h2⟩
theorem sumF_nn : ∀ (l : List Int), Sm l → Flt.NN (sumF l) := by
  have key : ∀ (l : List Int) (s : Nat), Flt.NN s → Sm l → Flt.NN (l.foldl (fun s x => fadd s (Flt.fx x)) s) := by
    intro l
    induction l with
    | nil => intro s hs _; exact hs
    | cons a l ih => intro s hs hl; exact ih _ (add_some hs (fx_fn (hl.abs (by simp)))).2 (fun x hx => hl x (by simp [hx]))
  intro l hl
  exact key l 0 zero_nn hl
theorem Sm.take {l : List Int} (h : Sm l) (k : Nat) : Sm (l.take k) := fun x hx => h x (List.mem_of_mem_take hx)
def meanF (l : List Int) : Nat := fdiv (sumF l) (Flt.fx l.length)
def devS (l : List Int) (m : Nat) : Nat := l.foldl (fun v x => fadd v (fmul (fsub (Flt.fx x) m) (fsub (Flt.fx x) m))) 0
theorem devS_snoc (l : List Int) (m : Nat) (x : Int) : devS (l ++ [x]) m = fadd (devS l m) (fmul (fsub (Flt.fx x) m) (fsub (Flt.fx x) m)) := by simp [devS]
def devF (l : List Int) (m : Nat) : Nat := fsqr (fdiv (devS l m) (Flt.fx l.length))
theorem devS_pos : ∀ (l : List Int) (m : Nat), Flt.NN m → Sm l → Flt.Pos (devS l m) := by
  have key : ∀ (l : List Int) (m s : Nat), Flt.NN m → Flt.Pos s → Sm l → Flt.Pos (l.foldl (fun v x => fadd v (fmul (fsub (Flt.fx x) m) (fsub (Flt.fx x) m))) s) := by
    intro l
    induction l with
    | nil => intro m s _ hs _; exact hs
    | cons a l ih => intro m s hm hs hl; exact ih m _ hm (addp_some hs (sq_some (sub_some (fx_fn (hl.abs (by simp))) hm).2).2).2 (fun x hx => hl x (by simp [hx]))
  intro l m hm hl
  exact key l m 0 hm zero_pos hl
theorem take_snoc {l : List Int} {i : Nat} {x : Int} (h : l[i]? = some x) : l.take (i + 1) = l.take i ++ [x] := by rw [List.take_add_one, h]; rfl

/-! the walk's laws -/
section
variable {P : Program} (w : World)
theorem run_fadd (t : TypeId) {x y r : Nat} (h : Ieee.double.add x y = some r) : (binOp .add t (.float .f64 x) (.float .f64 y)).run P w = .ok (.float .f64 r) w := run_float_arith w .add t .f64 x y r h
theorem run_fsub (t : TypeId) {x y r : Nat} (h : Ieee.double.sub x y = some r) : (binOp .sub t (.float .f64 x) (.float .f64 y)).run P w = .ok (.float .f64 r) w := run_float_arith w .sub t .f64 x y r h
theorem run_fmul (t : TypeId) {x y r : Nat} (h : Ieee.double.mul x y = some r) : (binOp .mul t (.float .f64 x) (.float .f64 y)).run P w = .ok (.float .f64 r) w := run_float_arith w .mul t .f64 x y r h
theorem run_fdiv (t : TypeId) {x y r : Nat} (h : Ieee.double.div x y = some r) : (binOp .quo t (.float .f64 x) (.float .f64 y)).run P w = .ok (.float .f64 r) w := run_float_arith w .quo t .f64 x y r h
theorem run_store_float (a : Addr) (m : Mode) (k : FloatKind) (n : Nat) : (store a (.float k n) m).run P w = stored P w a (.float k n) m := run_store P w a _ m rfl
end
end Go.Proofs.Ytkaigmoeagjjgaa
