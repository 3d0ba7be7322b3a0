import Derived.Test.YthnccpbgccmapabDoorHold
namespace Go.Proofs.YthnccpbgccmapabDoor
open Go.RowKit
set_option linter.unusedVariables false
attribute [local go_sem ↓] Go.wp_at_zero Go.wp_at_succ

/-- Payloads in memory of their own. -/
def rowsP : List Value → List (List UInt8) → List Comp
  | v :: vs, p :: ps => rowC v p :: rowsP vs ps
  | _, _ => []

theorem rowsP_append {vs : List Value} {ps : List (List UInt8)} (h : vs.length = ps.length) (v : Value) (p : List UInt8) : (rowsP (vs ++ [v]) (ps ++ [p])).Perm (rowC v p :: rowsP vs ps) := by
  induction vs generalizing ps with
  | nil =>
    have : ps = [] := List.eq_nil_of_length_eq_zero (by simpa using h.symm)
    subst this
    exact List.Perm.refl _
  | cons x vs ih =>
    cases ps with
    | nil => simp at h
    | cons y ps =>
      simp only [List.cons_append, rowsP]
      exact ((ih (by simpa using h)).cons _).trans (List.Perm.swap _ _ _)

/-- A list without spare room. -/
def TightV (v : Value) : Prop := ∃ ao n, v = .slice ao n n

/-- What the looking knows. -/
structure Fd (P : Nat) (hv av : Value) (X : List UInt8) (vs : List Value) (L : Nat) (cs : List Comp) (w : World) (p : Nat) (s : Lk) (fv : Value) (ns : List Value) (ps : List (List UInt8)) (Lx : Nat) : Prop where
  all : All (stC P hv s fv (L + Lx) :: rowC av X :: qC fv (vs ++ ns) :: (rowsP ns ps ++ cs)) w
  ok : s.Ok
  le : p + s.taken ≤ X.length
  sc : scan .init ((X.drop p).take s.taken) = .more s
  nl : ns.length = ps.length
  lx : Lx ≤ p ∧ ns.length ≤ p
  fins : fin X = (ps ++ (fin (X.drop p)).1, Lx + (fin (X.drop p)).2.1, (fin (X.drop p)).2.2)
  tg : ∀ v ∈ ns, TightV v

section
variable {P : Nat} {hv av fv : Value} {X : List UInt8} {vs : List Value} {L : Nat} {cs : List Comp} {w : World} {p : Nat} {s : Lk} {ns : List Value} {ps : List (List UInt8)} {Lx : Nat}

theorem Fd.st (h : Fd P hv av X vs L cs w p s fv ns ps Lx) : StB w P hv s fv (L + Lx) := h.all.1.2.1
theorem Fd.row (h : Fd P hv av X vs L cs w p s fv ns ps Lx) : w.ownsRow 0 5 1 av X.length (cellsB X) := h.all.2.2.1.2.1
theorem Fd.que (h : Fd P hv av X vs L cs w p s fv ns ps Lx) : Que w fv (vs ++ ns) := h.all.2.2.2.2.1.2.1
theorem Fd.into (h : Fd P hv av X vs L cs w p s fv ns ps Lx) {w0 : World} (hin : inC w0 ∈ cs) : Below w0.heap.size w0 w := (h.all.mem (c := inC w0) (by simp [hin])).2.1
theorem Fd.drewN (h : Fd P hv av X vs L cs w p s fv ns ps Lx) (q : Nat) : Fd P hv av X vs L cs (w.drewN q) p s fv ns ps Lx :=
  ⟨h.all.kept (F := []) ⟨rfl, rfl, rfl, Nat.le_refl _, fun _ _ _ => rfl⟩ (fun d _ k hk => by cases hk), h.ok, h.le, h.sc, h.nl, h.lx, h.fins, h.tg⟩

theorem split_at (X : List UInt8) (p t : Nat) (h : p + t < X.length) : X.drop p = (X.drop p).take t ++ (X.getD (p + t) 0 :: X.drop (p + t + 1)) := by
  have e1 : (X.drop p).drop t = X.getD (p + t) 0 :: X.drop (p + t + 1) := by
    rw [List.drop_drop, List.drop_eq_getElem_cons h]
    simp [List.getD, List.getElem?_eq_getElem h]
  rw [← e1, List.take_append_drop]

theorem take_next (X : List UInt8) (p t : Nat) (h : p + t < X.length) : (X.drop p).take (t + 1) = (X.drop p).take t ++ [X.getD (p + t) 0] := by
  have hl : t < (X.drop p).length := by simp; omega
  rw [List.take_succ_eq_append_getElem hl]
  simp [List.getD, List.getElem?_eq_getElem h]

/-- One byte more was taken. -/
theorem Fd.took (h : Fd P hv av X vs L cs w p s fv ns ps Lx) (hlt : p + s.taken < X.length) (ht : (takeP s (X.getD (p + s.taken) 0)).2 = true) (hw : ¬ wholeP (takeP s (X.getD (p + s.taken) 0)).1) {w' : World} (hs : StB w' P hv (takeP s (X.getD (p + s.taken) 0)).1 fv (L + Lx)) (hf : Fr [P] w w') :
    Fd P hv av X vs L cs w' p (takeP s (X.getD (p + s.taken) 0)).1 fv ns ps Lx := by
  have et := takeP_taken s (X.getD (p + s.taken) 0)
  refine ⟨h.all.st_turn hs hf, takeP_ok h.ok ht hw, by rw [et]; omega, ?_, h.nl, h.lx, h.fins, h.tg⟩
  rw [et, take_next X p s.taken hlt, scan_append, h.sc]
  simp only [scan]
  rw [if_pos ht, if_neg hw]

theorem Fd.isBad (h : Fd P hv av X vs L cs w p s fv ns ps Lx) (hlt : p + s.taken < X.length) (ht : (takeP s (X.getD (p + s.taken) 0)).2 = false) : scan .init (X.drop p) = .bad := by
  rw [split_at X p s.taken hlt, scan_append, h.sc]
  simp only [scan]
  rw [if_neg (by rw [ht]; simp)]

theorem Fd.isWhole (h : Fd P hv av X vs L cs w p s fv ns ps Lx) (hlt : p + s.taken < X.length) (ht : (takeP s (X.getD (p + s.taken) 0)).2 = true) (hw : wholeP (takeP s (X.getD (p + s.taken) 0)).1) : scan .init (X.drop p) = .whole (takeP s (X.getD (p + s.taken) 0)).1.size := by
  rw [split_at X p s.taken hlt, scan_append, h.sc]
  simp only [scan]
  rw [if_pos ht, if_pos hw]

/-- A byte is let by. -/
theorem Fd.letBy (h : Fd P hv av X vs L cs w p s fv ns ps Lx) (hlt : p + s.taken < X.length) (ht : (takeP s (X.getD (p + s.taken) 0)).2 = false) {w' : World} (hs : StB w' P hv .init fv (L + (Lx + 1))) (hf : Fr [P] w w') :
    Fd P hv av X vs L cs w' (p + 1) .init fv ns ps (Lx + 1) := by
  have hb := h.isBad hlt ht
  refine ⟨h.all.st_turn hs hf, Lk.init_ok, by show p + 1 + 0 ≤ _; omega, rfl, h.nl, by have := h.lx; omega, ?_, h.tg⟩
  have e : X.drop p = X.getD p 0 :: X.drop (p + 1) := by
    rw [List.drop_eq_getElem_cons (by omega)]
    simp [List.getD, List.getElem?_eq_getElem (show p < X.length by omega)]
  rw [h.fins]
  rw [e] at hb ⊢
  rw [fin_bad hb]
  simp only [Prod.mk.injEq, true_and, and_true]
  omega

/-- All was taken. -/
theorem Fd.done (h : Fd P hv av X vs L cs w p s fv ns ps Lx) (hq : p + s.taken = X.length) : fin X = (ps, Lx, X.drop p) ∧ scan .init (X.drop p) = .more s := by
  have e : (X.drop p).take s.taken = X.drop p := List.take_of_length_le (by simp; omega)
  have hsc := h.sc
  rw [e] at hsc
  refine ⟨?_, hsc⟩
  rw [h.fins, fin_more hsc]
  simp

/-- A payload is found. -/
theorem Fd.found (h : Fd P hv av X vs L cs w p s fv ns ps Lx) {n : Nat} (hsw : scan .init (X.drop p) = .whole n) {w' : World} {fv' v : Value} {Y : List UInt8} (hA : All (stC P hv .init fv' (L + Lx) :: rowC av X :: qC fv' ((vs ++ ns) ++ [v]) :: rowC v Y :: (rowsP ns ps ++ cs)) w') (hY : Y = ((X.drop p).drop 9).take n) (hn : 13 + n ≤ X.length - p) (hv9 : TightV v) :
    Fd P hv av X vs L cs w' (p + (13 + n)) .init fv' (ns ++ [v]) (ps ++ [Y]) Lx := by
  refine ⟨?_, Lk.init_ok, by show p + (13 + n) + 0 ≤ _; omega, rfl, by simp [h.nl], by have := h.lx; simp; omega, ?_, fun x hx => (List.mem_append.1 hx).elim (h.tg x) (fun e => by simp at e; subst e; exact hv9)⟩
  · rw [← List.append_assoc]
    refine hA.perm (List.Perm.cons _ (List.Perm.cons _ (List.Perm.cons _ ?_)))
    exact ((rowsP_append h.nl v Y).symm.append_right cs)
  · have e : X.drop (p + (13 + n)) = (X.drop p).drop (n + 13) := by rw [List.drop_drop]; congr 1; omega
    rw [h.fins, fin_whole hsw, e, ← hY]
    simp
end
end Go.Proofs.YthnccpbgccmapabDoor
