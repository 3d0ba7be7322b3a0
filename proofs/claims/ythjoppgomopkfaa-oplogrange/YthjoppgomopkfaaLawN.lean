import Derived.Test.YthjoppgomopkfaaLaw
namespace Go.Proofs.Ythjoppgomopkfaa
open Go.RowKit Go.Shelf
set_option linter.unusedVariables false

/-- The same within a round of another range. -/
theorem range_goodN {P : Program} {α : Type} {g : Operand} {ps : Array Tmp} {assign body : Code} {Q : Exit → Act → World → Prop} {a : Act} {w : World} {n l₀ : Nat} {r₀ : Loop} (hl₀ : w.heap[l₀]? = some (.loop r₀)) (h1 : 1 ≤ n)
    {gf : Nat} {lb : Array Value} (hg : a.eval g = .func (.func gf) #[] lb) (eg : ∀ args w, (callFunc gf args).run P w = .ok (.enter gf args) w)
    {encs : α → Array Value} {Kp : World → World → Prop} {Fresh : List α → α → World → World → Prop} {S Sp : List α → Prop} {Nm : Nat}
    (hseq : ∀ (l : Nat) (J Jx : List α → World → Prop) (W : World), Below w.heap.size w W → W.heap.size = w.heap.size + 1 → (∀ s A B, J s A → Below A.heap.size A B → J s B) →
      (∀ pre x W0 W1, J pre W0 → Fresh pre x W0 W1 → pre.length < Nm → YieldAt Fence.wide (n - 1 - 1) P l (encs x) W1 fun e W' => (e = .returned (.bool true) ∧ J (pre ++ [x]) W' ∧ Kp W1 W') ∨ (e = .returned (.bool false) ∧ Jx (pre ++ [x]) W')) → J [] W →
      CallsIn Fence.wide (n - 1) P gf (#[.func (.yield l) #[] #[]] ++ lb) W fun e W' => (∃ v, e = .returned v) ∧ ((∃ ys, S ys ∧ J ys W') ∨ (∃ pre, Sp pre ∧ Jx pre W')))
    (hKt : ∀ {A B C : World}, Kp A B → Kp B C → Kp A C) (hKb : ∀ (W : World) (l : Nat) (o o' : Obj), W.heap[l]? = some o → o.isCells = false → Kp W (W.putObj l o')) (hps : ∀ x, (encs x).size = ps.size)
    (I : List α → World → Prop) (Ix : Code → List α → World → Prop) (I2 : List α → α → World → Prop) (hI : OwnFrom w.heap.size I) (hIx : ∀ c, OwnFrom w.heap.size (Ix c)) (hI2 : ∀ pre, OwnFrom w.heap.size (I2 pre)) (hfb : ∀ pre x W0 W1, Fresh pre x W0 W1 → Below W0.heap.size W0 W1) (hfr : ∀ pre x W0 W1, I pre W0 → Fresh pre x W0 W1 → I2 pre x W1) (h0 : I [] w)
    (Ax : α → Act → World → Prop) (hAx : ∀ a', OwnFrom w.heap.size (fun x W => Ax x a' W))
    (hassign : ∀ (l : Nat) (pre : List α) (x : α) (W : World) (K : Act → World → Prop), I2 pre x W → (∀ a' W', KeepsFrom w.heap.size W W' → Kp W W' → I2 pre x W' → Ax x a' W' → K a' W') →
      assign.wpIn (Fence.wide.inRound l) (n - 1 - 1) P (Exit.then K (fun _ _ _ => False)) { tmps := (ps.zip (encs x)).foldl (fun t (p, v) => t.setIfInBounds p v) a.tmps, defers := [] } W)
    (hbody : ∀ (l : Nat) (pre : List α) (x : α) (a' : Act) (W : World), w.heap.size ≤ l → (∃ r, W.heap[l]? = some (.loop r)) → I2 pre x W → Ax x a' W → pre.length < Nm → body.wpIn (Fence.wide.inRound l) (n - 1 - 1) P (ownPostG w.heap.size Kp I Ix (pre ++ [x]) W) a' W)
    (hdone : ∀ (xs : List α) (W : World), S xs → I xs W → Q .normal a W)
    (hstop : ∀ (c : Code) (pre : List α) (W : World), Sp pre → Ix c pre W → c.wpIn (Fence.wide.inRound l₀) n P Q a W) :
    (Code.rangeFunc g ps assign body).wpIn (Fence.wide.inRound l₀) n P Q a w := by
  refine wpIn_rangeFunc ?_
  intro fn hfn
  -- L: the loop's record, the one block that is laid
  obtain ⟨L, hL⟩ : ∃ L, L = w.heap.size := ⟨_, rfl⟩
  obtain ⟨R, hR⟩ : ∃ R : LoopState → Option Code → Loop, R = fun st pe => { state := st, pending := pe, fn, tmps := a.tmps, params := ps, assign, body, defers := r₀.defers } := ⟨_, rfl⟩
  obtain ⟨W1, hW1⟩ : ∃ W1, W1 = w.alloc (.loop (R .ready none)) := ⟨_, rfl⟩
  have bL : W1.heap[L]? = some (.loop (R .ready none)) := by rw [hW1, hL]; exact heap_alloc_new w _
  have bW : Below w.heap.size w W1 := by rw [hW1]; exact (Below.refl _ w).alloc (Nat.le_refl _) _
  let Jn : List α → World → Prop := fun pre W => I pre W ∧ W.heap[L]? = some (.loop (R .ready none))
  let Jx : List α → World → Prop := fun pre W => ∃ c, Ix c pre W ∧ W.heap[L]? = some (.loop (R .done (some c)))
  have kept : ∀ {A B : World} {k : Nat} {o : Obj}, Below A.heap.size A B → A.heap[k]? = some o → B.heap[k]? = some o := fun h hk => (h.block _ (Array.getElem?_eq_some_iff.1 hk).1).trans hk
  refine ⟨L, [], W1, { target := .fn (.func gf) lb, args := #[.func (.yield L) #[] #[]] }, W1, gf, #[.func (.yield L) #[] #[]] ++ lb, W1, ?_, ?_, fun f' _ => trivial, ?_, fun _ => h1, ?_⟩
  · rw [hW1, hR, hL]; exact run_enterLoop_inner hl₀ _ _ _ _ _
  · simp only [resolve, hg]
    simp [go_sem]
  · simp [invoke, go_sem, eg]
  refine (CallsIn.inRound l₀ (hseq L Jn Jx W1 bW (by rw [hW1]; simp) (fun s A B h hb => ⟨hI s A B none h.1 (grown_of_below hb none) (fun r e => by cases e), kept hb h.2⟩) ?round ⟨hI [] w W1 none h0 (grown_of_below bW none) (fun r e => by cases e), bL⟩)).mono ?behind
  case behind =>
    rintro e W2 ⟨⟨v, rfl⟩, (⟨xs, hS, hi, hl⟩ | ⟨pre, hSp, c, hi, hl⟩)⟩
    · exact ⟨none, _, by have := run_endLoop (P := P) hl (by rw [hR]; simp); rw [hR] at this; exact this, hdone xs _ hS (hI.putObj _ hi (by omega) hl rfl)⟩
    · exact ⟨some c, _, by have := run_endLoop (P := P) hl (by rw [hR]; simp); rw [hR] at this; exact this, hstop c pre _ hSp ((hIx c).putObj _ hi (by omega) hl rfl)⟩
  case round =>
    rintro pre x W0 W ⟨hi0, hl⟩ hfx hlen
    have hbx := hfb _ _ _ _ hfx
    have hi := hfr _ _ _ _ hi0 hfx
    have hl := kept hbx hl
    have hy := run_yield (P := P) (args := encs x) hl (by rw [hR]; exact hps x)
    rw [hR] at hy
    refine ⟨fn, _, assign, body, hy, roundIn_of_wpIn trivial (hassign _ pre x W _ hi ?_)⟩
    clear hy
    intro a' Wa hka hkp hia hax
    have hl' := hka.same _ _ (by omega) hl rfl
    have hlt : L < Wa.heap.size := (Array.getElem?_eq_some_iff.1 hl').1
    refine ⟨_, run_beginRound hl' (by rw [hR]), ?_⟩
    obtain ⟨Wb, hWb⟩ : ∃ Wb, Wb = Wa.putObj L (.loop { R .ready none with state := .busy }) := ⟨_, rfl⟩
    have lb : Wb.heap[L]? = some (.loop { R .ready none with state := .busy }) := by rw [hWb]; exact World.putObj_heap_same hlt
    have pb : Kp Wa Wb := by rw [hWb]; exact hKb _ _ _ _ hl' rfl
    have go := hbody L pre x a' Wb (by omega) ⟨_, lb⟩ (by rw [hWb]; exact (hI2 pre).putObj (s := x) _ hia (by omega) hl' rfl) (by rw [hWb]; exact (hAx a').putObj (s := x) _ hax (by omega) hl' rfl) hlen
    rw [← hWb]
    refine wpIn_mono go ?_
    have fin : ∀ (jump : Option Code) (W3 : World), KeepsFrom w.heap.size Wb W3 →
        (Instr.endRound L jump).run P W3 = .ok (.bool jump.isNone) (W3.putObj L (.loop (R (if jump.isNone then .ready else .done) jump))) ∧ W3.heap[L]? = some (.loop { R .ready none with state := .busy }) ∧
        (W3.putObj L (.loop (R (if jump.isNone then .ready else .done) jump))).heap[L]? = some (.loop (R (if jump.isNone then .ready else .done) jump)) := fun jump W3 h3 => by
      have l3 := h3.same _ _ (by omega) lb rfl
      have r3 := run_endRound (P := P) jump l3
      rw [hR] at r3 ⊢
      exact ⟨r3, by rw [hR] at l3; exact l3, World.putObj_heap_same (Array.getElem?_eq_some_iff.1 l3).1⟩
    rintro e a3 W3 hp
    cases e with
    | normal =>
      obtain ⟨k3, p3, i3⟩ := hp
      obtain ⟨hr, l3, l4⟩ := fin none W3 k3
      exact ⟨_, _, hr, .inl ⟨rfl, ⟨hI.putObj _ i3 (by omega) l3 rfl, l4⟩, hKt hkp (hKt (hKt pb p3) (hKb _ _ _ _ l3 rfl))⟩⟩
    | ret => exact (fun ⟨k3, i3⟩ => (fun ⟨hr, l3, l4⟩ => ⟨_, _, hr, .inr ⟨rfl, .ret, (hIx _).putObj _ i3 (by omega) l3 rfl, l4⟩⟩) (fin (some .ret) W3 k3)) hp
    | exit id => exact (fun ⟨k3, i3⟩ => (fun ⟨hr, l3, l4⟩ => ⟨_, _, hr, .inr ⟨rfl, .exit id, (hIx _).putObj _ i3 (by omega) l3 rfl, l4⟩⟩) (fin (some (.exit id)) W3 k3)) hp
    | goto t => exact (fun ⟨k3, i3⟩ => (fun ⟨hr, l3, l4⟩ => ⟨_, _, hr, .inr ⟨rfl, .goto t, (hIx _).putObj _ i3 (by omega) l3 rfl, l4⟩⟩) (fin (some (.goto t)) W3 k3)) hp
    | panic ch => exact hp.elim
    | outgrown => exact hp.elim

end Go.Proofs.Ythjoppgomopkfaa
