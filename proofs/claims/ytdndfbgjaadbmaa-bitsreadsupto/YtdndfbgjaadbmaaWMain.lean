import Derived.Test.YtdndfbgjaadbmaaWriteB
namespace Go.Proofs.Ytdndfbgjaadbmaa
open Go.RowKit
set_option linter.unusedVariables false

def errS : Option (List UInt8) → Int
  | some _ => 0
  | none => 1
def lisS : Option (List UInt8) → List UInt8
  | some bs => bs
  | none => []

theorem lenS_lisS (st : Option (List UInt8)) : (lisS st).length = lenS st := by cases st <;> rfl

/-- Done, of whatever. -/
theorem done_any {w : World} {b : Nat} {v : Value} {st : Option (List UInt8)} (h : Wst w b v st) (hlen : lenS st ≤ 140737488355328) :
    Calls Try.prog 13 #[.pointer (some ⟨b, 0, none⟩)] w fun e w' => ∃ s', e = .returned (.tuple #[s', .int .i64 (errS st)]) ∧ w'.ownsRow w.heap.size 5 1 s' (lisS st).length (cellsB (lisS st)) ∧ Below w.heap.size w w' := by
  cases st with
  | some bs => exact done_whole h hlen
  | none =>
    refine (done_broken h).mono ?_
    rintro e w' ⟨rfl, rfl⟩
    exact ⟨_, rfl, World.ownsRow_nil _ _ _ _, Below.refl _ _⟩

theorem xdone_any {w : World} {b : Nat} {v : Value} {st : Option (List UInt8)} (h : Xst w b v st) (hlen : lenS st ≤ 140737488355328) :
    Calls Try.prog 14 #[.pointer (some ⟨b, 0, none⟩)] w fun e w' => ∃ s', e = .returned (.tuple #[s', .int .i64 (errS st)]) ∧ w'.ownsRow w.heap.size 5 1 s' (lisS st).length (cellsB (lisS st)) ∧ Below w.heap.size w w' := by
  cases st with
  | some bs => exact xdone_whole h hlen
  | none =>
    refine (xdone_broken h).mono ?_
    rintro e w' ⟨rfl, rfl⟩
    exact ⟨_, rfl, World.ownsRow_nil _ _ _ _, Below.refl _ _⟩

theorem wS_len (st : Option (List UInt8)) (x : It) : lenS (wS st x) ≤ lenS st + (x.s.size + 10) := by
  have h := fun n => enc_len 9 n
  have e : x.s.data.toList.length = x.s.size := rfl
  unfold wS
  split
  · unfold numS
    split
    · simp [lenS]
    · have := lenS_addS st (enc 9 x.n.toNat); have := h x.n.toNat; omega
  · split
    · have := lenS_addS st (enc 9 (foldN x.n)); have := h (foldN x.n); omega
    · split
      · have := lenS_addS st [if x.v then 1 else 0]; simp at this ⊢; omega
      · split
        · have := lenS_addS st (enc 9 x.s.size ++ x.s.data.toList); have := h x.s.size; rw [List.length_append] at *; omega
        · split
          · have := lenS_addS st (enc 9 x.s.size ++ x.s.data.toList); have := h x.s.size; rw [List.length_append] at *; omega
          · omega

theorem sizeI_succ (l : List It) (k : Nat) (x : It) (h : l[k]? = some x) : sizeI (l.take (k + 1)) = sizeI (l.take k) + (x.s.size + 10) := by
  rw [List.take_add_one, h]
  simp [sizeI]

theorem sizeI_mono (l : List It) (k : Nat) : sizeI (l.take k) ≤ sizeI (l.take (k + 1)) := by
  have := sizeI_take (l.take (k + 1)) k
  rwa [List.take_take, Nat.min_eq_left (by omega)] at this

/-- A part is taken to the front, or put back. -/
theorem pick_perm : ∀ (cs : List Comp) (n : Nat) (c : Comp), cs[n]? = some c → cs.Perm (c :: cs.eraseIdx n)
  | [], n, c, h => by simp at h
  | d :: cs, 0, c, h => by
    have e : d = c := by simpa using h
    subst e
    exact List.Perm.refl _
  | d :: cs, n + 1, c, h => ((pick_perm cs n c (by simpa using h)).cons d).trans (List.Perm.swap c d _)
theorem All.pick {cs : List Comp} {w : World} (h : All cs w) (n : Nat) (c : Comp) (hc : cs[n]? = some c) : All (c :: cs.eraseIdx n) w := h.perm (pick_perm cs n c hc)
theorem All.place {cs : List Comp} {c : Comp} {w : World} (h : All (c :: cs) w) (n : Nat) (hn : n ≤ cs.length) : All (cs.insertIdx n c) w := h.perm (List.perm_insertIdx c cs hn).symm

/-- An array of pointers. -/
def arrC (P : Nat) (t : TypeId) (vs : Array Value) : Comp := ⟨fun w => w.heap[P]? = some (.cells vs t (0, 0)), [P]⟩

theorem arrC_good (P : Nat) (t : TypeId) (vs : Array Value) : (arrC P t vs).Good := by
  intro w w' h hs hb
  show w'.heap[P]? = _
  rw [hb P (by simp [arrC])]; exact h

theorem All.addArr {cs : List Comp} {w : World} (h : All cs w) (t : TypeId) (vs : Array Value) : All (arrC w.heap.size t vs :: cs) (w.alloc (.cells vs t)) := by
  refine h.add (Fr.below ((Below.refl _ _).alloc (Nat.le_refl _) _)) (arrC_good _ _ _) (heap_alloc_new _ _) (fun k hk => ?_)
  have : k = w.heap.size := by simpa [arrC] using hk
  subst this
  exact ⟨Nat.le_refl _, by simp⟩

theorem All.setArr {P : Nat} {t : TypeId} {vs : Array Value} {cs : List Comp} {w : World} (h : All (arrC P t vs :: cs) w) (j : Nat) (u : Value) : All (arrC P t (vs.setIfInBounds j u) :: cs) (w.setCell ⟨P, j, none⟩ u) := by
  refine h.turn (Fr.setCell w P j u) (arrC_good _ _ _) (heap_setCell_same h.1.2.1 u) (Gr.refl _ _) (fun k hk => ?_)
  have := h.1.2.2 k hk
  simpa [World.setCell] using this

def ptr (b : Nat) : Value := .pointer (some ⟨b, 0, none⟩)

/-- A new writer. -/
theorem All.addWr {cs : List Comp} {w w' : World} (h : All cs w) (hw : Wst w' w.heap.size (.slice none 0 0) (some [])) (hb : Below w.heap.size w w') : All (wrC w.heap.size (.slice none 0 0) (some []) :: cs) w' := by
  refine h.add (Fr.below hb) (wrC_good _ _ _) hw (fun k hk => ?_)
  have : k = w.heap.size := by simpa [wrC, Value.ownBlock] using hk
  subst this
  exact ⟨Nat.le_refl _, hw.lt⟩
theorem All.addXw {cs : List Comp} {w w' : World} (h : All cs w) (hw : Xst w' w.heap.size (.slice none 0 0) (some [])) (hb : Below w.heap.size w w') : All (xwC w.heap.size (.slice none 0 0) (some []) :: cs) w' := by
  refine h.add (Fr.below hb) (xwC_good _ _ _) hw (fun k hk => ?_)
  have : k = w.heap.size := by simpa [xwC, Value.ownBlock] using hk
  subst this
  exact ⟨Nat.le_refl _, hw.lt⟩

/-- The shelf, with its lists, and other parts. -/
def Cn (S : Nat) (ov wv : Value) (es : List En) (cs : List Comp) : List Comp := boxC S ov wv :: slC ov (es.map En.a) :: slC wv (es.map En.m) :: (rows es ++ cs)

/-- A shelf that is new. -/
theorem All.addShelf {cs : List Comp} {w : World} (h : All cs w) : All (Cn w.heap.size (.slice none 0 0) (.slice none 0 0) [] cs) (w.alloc (.cells #[.slice none 0 0, .slice none 0 0] 33)) := by
  have h1 : All cs (w.alloc (.cells #[.slice none 0 0, .slice none 0 0] 33)) := h.alloc _
  have hn : ∀ w' : World, (slC (.slice none 0 0) []).Good ∧ (slC (.slice none 0 0) []).holds w' ∧ ∀ k ∈ (slC (.slice none 0 0) []).fp, k < w'.heap.size := fun w' => ⟨slC_good _ _, World.ownsRow_nil _ _ _ _, by simp [slC, Value.ownBlock]⟩
  refine ⟨⟨boxC_good _ _ _, heap_alloc_new _ _, by simp [boxC]⟩, ?_, hn _, by simp [slC, Value.ownBlock, Disj], hn _, by simp [slC, Value.ownBlock, Disj], h1⟩
  intro d hd k hk hkd
  have hk' : k = w.heap.size := by simpa [boxC] using hk
  subst hk'
  have hd' : d = slC (.slice none 0 0) [] ∨ d ∈ cs := by simpa [rows] using hd
  rcases hd' with rfl | hd'
  · simp [slC, Value.ownBlock] at hkd
  · have := (h.mem hd').2.2 _ hkd
    omega

section
variable {w w1 : World} {S : Nat} {ov wv a m : Value} {es : List En} {cs : List Comp} {xs : List UInt8}

theorem Cn.addRow (h : All (Cn S ov wv es cs) w) (hb : Below w.heap.size w w1) (ho : w1.ownsRow w.heap.size 5 1 a xs.length (cellsB xs)) : All (Cn S ov wv es (rowC a xs :: cs)) w1 := by
  have A := All.addRow h hb ho
  refine A.perm ?_
  have p : (rowC a xs :: (boxC S ov wv :: slC ov (es.map En.a) :: slC wv (es.map En.m) :: rows es) ++ cs).Perm ((boxC S ov wv :: slC ov (es.map En.a) :: slC wv (es.map En.m) :: rows es) ++ rowC a xs :: cs) := (List.perm_middle (a := rowC a xs)).symm
  exact p

/-- As keep takes it. -/
theorem Cn.toKeep (h : All (Cn S ov wv es (rowC a xs :: cs)) w) : All (boxC S ov wv :: slC ov (es.map En.a) :: slC wv (es.map En.m) :: rowC a xs :: (rows es ++ cs)) w := by
  refine h.perm ?_
  exact List.Perm.cons _ (List.Perm.cons _ (List.Perm.cons _ List.perm_middle))

/-- As keep leaves it. -/
theorem Cn.ofKeep (h : All (boxC S ov wv :: slC ov (es.map En.a ++ [a]) :: slC wv (es.map En.m ++ [m]) :: rowC a xs :: rowC m xs :: (rows es ++ cs)) w) : All (Cn S ov wv (es ++ [⟨a, m, xs, xs⟩]) cs) w := by
  refine h.perm ?_
  have e1 : (es ++ [(⟨a, m, xs, xs⟩ : En)]).map En.a = es.map En.a ++ [a] := by simp
  have e2 : (es ++ [(⟨a, m, xs, xs⟩ : En)]).map En.m = es.map En.m ++ [m] := by simp
  unfold Cn
  rw [e1, e2]
  refine List.Perm.cons _ (List.Perm.cons _ (List.Perm.cons _ ?_))
  have := (rows_split es [] ⟨a, m, xs, xs⟩ cs).symm
  simpa using this
end

/-- The two pairs of writers, where they are kept, and what came in. -/
def csM (w0 : World) (PA XA b0 b1 x0 x1 : Nat) (v0 v1 y0 y1 : Value) (s0 s1 : Option (List UInt8)) : List Comp :=
  wrC b0 v0 s0 :: xwC x0 y0 s0 :: wrC b1 v1 s1 :: xwC x1 y1 s1 :: arrC PA 25 #[ptr b0, ptr b1] :: arrC XA 27 #[ptr x0, ptr x1] :: [inC w0]

/-- The law's memory. -/
def Mn (w0 : World) (PA XA b0 b1 x0 x1 S : Nat) (B N : Nat) (w : World) : Prop :=
  ∃ v0 v1 y0 y1 s0 s1 ov wv es, lenS s0 ≤ B ∧ lenS s1 ≤ B ∧ es.length ≤ N ∧ (∀ e ∈ es, e.la = e.lm ∧ e.la.length ≤ 1099511627776) ∧ All (Cn S ov wv es (csM w0 PA XA b0 b1 x0 x1 v0 v1 y0 y1 s0 s1)) w

theorem Mn.lift {w0 : World} {PA XA b0 b1 x0 x1 S B N B2 N2 : Nat} {w : World} (h : Mn w0 PA XA b0 b1 x0 x1 S B N w) (hB : B ≤ B2) (hN : N ≤ N2) : Mn w0 PA XA b0 b1 x0 x1 S B2 N2 w := by
  obtain ⟨v0, v1, y0, y1, s0, s1, ov, wv, es, h0, h1, h2, h3, h4⟩ := h
  exact ⟨v0, v1, y0, y1, s0, s1, ov, wv, es, by omega, by omega, by omega, h3, h4⟩

theorem csM_below {w0 : World} {PA XA b0 b1 x0 x1 : Nat} {v0 v1 y0 y1 : Value} {s0 s1 : Option (List UInt8)} {w : World} (h : All (csM w0 PA XA b0 b1 x0 x1 v0 v1 y0 y1 s0 s1) w) : Below w0.heap.size w0 w :=
  (h.mem (c := inC w0) (by simp [csM])).2.1

theorem Cn.right {S : Nat} {ov wv : Value} {es : List En} {cs : List Comp} {w : World} (h : All (Cn S ov wv es cs) w) : All cs w := by
  have h1 : All (rows es ++ cs) w := h.2.2.2.2.2.2
  clear h
  generalize rows es = r at h1
  induction r with
  | nil => exact h1
  | cons c r ih => exact ih h1.2.2

theorem csM_cell {w0 : World} {PA XA b0 b1 x0 x1 : Nat} {v0 v1 y0 y1 : Value} {s0 s1 : Option (List UInt8)} {w : World} (h : All (csM w0 PA XA b0 b1 x0 x1 v0 v1 y0 y1 s0 s1) w) (kk : Nat) : w.cell? ⟨PA, kk, none⟩ = #[ptr b0, ptr b1][kk]? ∧ w.cell? ⟨XA, kk, none⟩ = #[ptr x0, ptr x1][kk]? := by
  have h1 : w.heap[PA]? = some (.cells #[ptr b0, ptr b1] 25 (0, 0)) := (h.mem (c := arrC PA 25 #[ptr b0, ptr b1]) (by simp [csM])).2.1
  have h2 : w.heap[XA]? = some (.cells #[ptr x0, ptr x1] 27 (0, 0)) := (h.mem (c := arrC XA 27 #[ptr x0, ptr x1]) (by simp [csM])).2.1
  exact ⟨cell_at h1 kk, cell_at h2 kk⟩

/-- The writers whose turn it is. -/
theorem csM_turn {w0 : World} {PA XA b0 b1 x0 x1 : Nat} {v0 v1 y0 y1 : Value} {s0 s1 : Option (List UInt8)} {w : World} (h : All (csM w0 PA XA b0 b1 x0 x1 v0 v1 y0 y1 s0 s1) w) (kk : Nat) (hk : kk < 2) :
    ∃ b x v y st, w.cell? ⟨PA, kk, none⟩ = some (.pointer (some ⟨b, 0, none⟩)) ∧ w.cell? ⟨XA, kk, none⟩ = some (.pointer (some ⟨x, 0, none⟩)) ∧ PA < w.heap.size ∧ XA < w.heap.size ∧ (st = s0 ∨ st = s1) ∧ Wst w b v st ∧ Xst w x y st := by
  have hc := csM_cell h kk
  have l1 := (h.mem (c := arrC PA 25 #[ptr b0, ptr b1]) (by simp [csM])).2.2 PA (by simp [arrC])
  have l2 := (h.mem (c := arrC XA 27 #[ptr x0, ptr x1]) (by simp [csM])).2.2 XA (by simp [arrC])
  rcases (show kk = 0 ∨ kk = 1 by omega) with rfl | rfl
  · exact ⟨b0, x0, v0, y0, s0, hc.1, hc.2, l1, l2, Or.inl rfl, h.1.2.1, h.2.2.1.2.1⟩
  · exact ⟨b1, x1, v1, y1, s1, hc.1, hc.2, l1, l2, Or.inr rfl, h.2.2.2.2.1.2.1, h.2.2.2.2.2.2.1.2.1⟩

theorem Below.at_cell {w w' : World} {P k : Nat} {u : Value} (h : Below w.heap.size w w') (hP : P < w.heap.size) (hc : w.cell? ⟨P, k, none⟩ = some u) : w'.cell? ⟨P, k, none⟩ = some u := by
  rw [h.cell (p := ⟨P, k, none⟩) hP]; exact hc

/-- The writers whose turn it is, to be written with. -/
theorem Mn.turn {w0 : World} {PA XA b0 b1 x0 x1 S B N : Nat} {w : World} (h : Mn w0 PA XA b0 b1 x0 x1 S B N w) (kk : Nat) (hk : kk < 2) :
    ∃ b x v y st rest, w.cell? ⟨PA, kk, none⟩ = some (.pointer (some ⟨b, 0, none⟩)) ∧ w.cell? ⟨XA, kk, none⟩ = some (.pointer (some ⟨x, 0, none⟩)) ∧ lenS st ≤ B ∧ All (wrC b v st :: xwC x y st :: rest) w ∧
      ∀ w2 v2 y2 st2 B2, B ≤ B2 → lenS st2 ≤ B2 → All (wrC b v2 st2 :: xwC x y2 st2 :: rest) w2 → Mn w0 PA XA b0 b1 x0 x1 S B2 N w2 := by
  obtain ⟨v0, v1, y0, y1, s0, s1, ov, wv, es, h0, h1, h2, h3, h4⟩ := h
  have hc := csM_cell (Cn.right h4) kk
  rcases (show kk = 0 ∨ kk = 1 by omega) with rfl | rfl
  · have p : ∀ v s y, (Cn S ov wv es (csM w0 PA XA b0 b1 x0 x1 v v1 y y1 s s1)).Perm (wrC b0 v s :: xwC x0 y s :: Cn S ov wv es (wrC b1 v1 s1 :: xwC x1 y1 s1 :: arrC PA 25 #[ptr b0, ptr b1] :: arrC XA 27 #[ptr x0, ptr x1] :: [inC w0])) := by
      intro v s y
      refine (List.perm_middle (a := wrC b0 v s) (l₁ := boxC S ov wv :: slC ov (es.map En.a) :: slC wv (es.map En.m) :: rows es)).trans (List.Perm.cons _ ?_)
      exact List.perm_middle (a := xwC x0 y s) (l₁ := boxC S ov wv :: slC ov (es.map En.a) :: slC wv (es.map En.m) :: rows es)
    refine ⟨b0, x0, v0, y0, s0, _, hc.1, hc.2, h0, h4.perm (p _ _ _), fun w2 v2 y2 st2 B2 hB hl hA => ?_⟩
    exact ⟨v2, v1, y2, y1, st2, s1, ov, wv, es, hl, by omega, h2, h3, hA.perm (p _ _ _).symm⟩
  · have p : ∀ v s y, (Cn S ov wv es (csM w0 PA XA b0 b1 x0 x1 v0 v y0 y s0 s)).Perm (wrC b1 v s :: xwC x1 y s :: Cn S ov wv es (wrC b0 v0 s0 :: xwC x0 y0 s0 :: arrC PA 25 #[ptr b0, ptr b1] :: arrC XA 27 #[ptr x0, ptr x1] :: [inC w0])) := by
      intro v s y
      have e1 : Cn S ov wv es (csM w0 PA XA b0 b1 x0 x1 v0 v y0 y s0 s) = (boxC S ov wv :: slC ov (es.map En.a) :: slC wv (es.map En.m) :: (rows es ++ [wrC b0 v0 s0, xwC x0 y0 s0])) ++ wrC b1 v s :: xwC x1 y s :: arrC PA 25 #[ptr b0, ptr b1] :: arrC XA 27 #[ptr x0, ptr x1] :: [inC w0] := by simp [Cn, csM]
      have e2 : Cn S ov wv es (wrC b0 v0 s0 :: xwC x0 y0 s0 :: arrC PA 25 #[ptr b0, ptr b1] :: arrC XA 27 #[ptr x0, ptr x1] :: [inC w0]) = (boxC S ov wv :: slC ov (es.map En.a) :: slC wv (es.map En.m) :: (rows es ++ [wrC b0 v0 s0, xwC x0 y0 s0])) ++ arrC PA 25 #[ptr b0, ptr b1] :: arrC XA 27 #[ptr x0, ptr x1] :: [inC w0] := by simp [Cn]
      rw [e1, e2]
      exact (List.perm_middle (a := wrC b1 v s)).trans (List.Perm.cons _ (List.perm_middle (a := xwC x1 y s)))
    refine ⟨b1, x1, v1, y1, s1, _, hc.1, hc.2, h1, h4.perm (p _ _ _), fun w2 v2 y2 st2 B2 hB hl hA => ?_⟩
    exact ⟨v0, v2, y0, y2, s0, st2, ov, wv, es, by omega, hl, h2, h3, hA.perm (p _ _ _).symm⟩

theorem All.drewN {cs : List Comp} {w : World} (h : All cs w) (q : Nat) : All cs (w.drewN q) := h.kept (F := []) ⟨rfl, rfl, rfl, Nat.le_refl _, fun _ _ _ => rfl⟩ (fun d _ k hk => by cases hk)

/-- The shelf, as holds and spoil take it. -/
theorem Cn.spA {S : Nat} {ov wv : Value} {es : List En} {cs : List Comp} {w : World} (h : All (Cn S ov wv es cs) w) (hok : ∀ e ∈ es, e.la = e.lm ∧ e.la.length ≤ 1099511627776) : SpA w S ov wv (es.map En.a) (es.map En.m) cs es := ⟨h, rfl, rfl, hok⟩

theorem Cn.reads {S : Nat} {ov wv : Value} {es : List En} {cs : List Comp} {w : World} (h : All (Cn S ov wv es cs) w) (hok : ∀ e ∈ es, e.la = e.lm ∧ e.la.length ≤ 1099511627776) : ∀ x ∈ es, Reads w x.a x.la ∧ Reads w x.m x.lm ∧ x.la = x.lm ∧ x.la.length ≤ 140737488355328 := by
  intro x hx
  have hr := (Cn.spA h hok).rowA hx
  have := hok x hx
  exact ⟨Reads.of_owns hr.1, Reads.of_owns hr.2, this.1, by omega⟩

theorem Mn.below {w0 : World} {PA XA b0 b1 x0 x1 S B N : Nat} {w : World} (h : Mn w0 PA XA b0 b1 x0 x1 S B N w) : Below w0.heap.size w0 w := by
  obtain ⟨v0, v1, y0, y1, s0, s1, ov, wv, es, h0, h1, h2, h3, h4⟩ := h
  exact csM_below (Cn.right h4)

end Go.Proofs.Ytdndfbgjaadbmaa
