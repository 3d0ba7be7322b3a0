import Derived.Test.YthjoppgomopkfaaEnt
namespace Go.Proofs.Ythjoppgomopkfaa
open Go.RowKit
set_option linter.unusedVariables false

/-- A row of one's own, whatever its elements' size. -/
def rowC (e : TypeId) (size : Nat) (v : Value) (n : Nat) (vs : List Value) : Comp := ⟨fun w => w.ownsRow 0 e size v n vs, v.ownBlock.toList⟩
theorem owns_keep {w w' : World} {e : TypeId} {size n : Nat} {v : Value} {vs : List Value} (h : w.ownsRow 0 e size v n vs) (hb : ∀ k ∈ v.ownBlock.toList, w'.heap[k]? = w.heap[k]?) : w'.ownsRow 0 e size v n vs :=
  ⟨h.1, by
    rcases h.2 with hn | ⟨g, cap, cur, rfl, hg, hgg, rest⟩
    · exact Or.inl hn
    · exact Or.inr ⟨g, cap, cur, rfl, hg, by rw [hb g (by simp [Value.ownBlock])]; exact hgg, rest⟩⟩
theorem rowC_good (e : TypeId) (size : Nat) (v : Value) (n : Nat) (vs : List Value) : (rowC e size v n vs).Good := fun w w' h hs hb => owns_keep h hb
theorem All.addRow0 {e : TypeId} {size : Nat} {cs : List Comp} {w : World} (h : All cs w) : All (rowC e size (.slice none 0 0) 0 [] :: cs) w :=
  ⟨⟨rowC_good _ _ _ _ _, ⟨by simp, Or.inl ⟨rfl, rfl⟩⟩, fun k hk => by simp [rowC, Value.ownBlock] at hk⟩, fun d hd k hk => by simp [rowC, Value.ownBlock] at hk, h⟩
theorem All.rowGrow {e : TypeId} {size n n' : Nat} {v v' : Value} {vs vs' : List Value} {cs : List Comp} {w w1 : World} {base : Nat} (h : All (rowC e size v n vs :: cs) w) (hown : w1.ownsRow base e size v' n' vs') (hg : w.grownBy w1 v.ownBlock) (hat : v'.ownBlock = v.ownBlock ∨ v'.ownBlock = some w.heap.size) : All (rowC e size v' n' vs' :: cs) w1 := by
  have ho' := owns_zero hown
  refine h.turn ((grown_fr hg).mono (fun k hk => by simpa [rowC] using hk)) (rowC_good _ _ _ _ _) ho' (fun k hk => ?_) (fun k hk => ?_)
  · have hk' : v'.ownBlock = some k := by simpa [rowC] using hk
    rcases hat with e1 | e1
    · exact Or.inl (by simp [rowC, ← e1, hk'])
    · rw [e1] at hk'; simp at hk'; exact Or.inr (by omega)
  · have hk' : v'.ownBlock = some k := by simpa [rowC] using hk
    exact (ho'.lt k hk').2

/-- A row of entries. -/
abbrev entC (v : Value) (l : List Ent) : Comp := rowC 39 7 v l.length (flatE l)
theorem owns7 {w : World} {base : Nat} {ao : Option Addr} {n c : Nat} {l : List Ent} (h : w.ownsRow base 39 7 (.slice ao n c) l.length (flatE l)) {i : Nat} {x : Ent} (hx : l[i]? = some x) : ∃ g, ao = some ⟨g, 0, none⟩ ∧ g < w.heap.size ∧ w.rangeAt g (i * 7) x.cells := by
  have hi := (List.getElem?_eq_some_iff.1 hx).1
  rcases h.2 with ⟨e, e2⟩ | ⟨g, cap, cur, e, _, hg, hn, hm, hcs, ht⟩
  · omega
  · simp only [Value.slice.injEq] at e
    refine ⟨g, e.1, (Array.getElem?_eq_some_iff.1 hg).1, fun j v hv => ?_⟩
    have hj : j < 7 := by have := (List.getElem?_eq_some_iff.1 hv).1; rwa [x.len] at this
    rw [cell_at hg, ← Array.getElem?_toList, ← hv, ← flatE_at hx hj, ← ht, List.getElem?_take, if_pos (by omega)]
theorem owns7_form {w : World} {base : Nat} {v : Value} {l : List Ent} (h : w.ownsRow base 39 7 v l.length (flatE l)) : ∃ ao c, v = .slice ao l.length c ∧ l.length ≤ c := by
  rcases h.2 with ⟨rfl, e⟩ | ⟨g, cap, cur, rfl, _, hg, hn, hm, hcs, ht⟩
  · exact ⟨none, 0, by rw [e], by omega⟩
  · exact ⟨_, cap, rfl, by omega⟩
/-- A new row. -/
theorem All.addEnts {cs : List Comp} {w : World} (h : All cs w) (l : List Ent) (hl : l.length ≤ maxLen) : All (entC (.slice (some ⟨w.heap.size, 0, none⟩) l.length l.length) l :: cs) (w.alloc (.cells (flatE l).toArray 39)) := by
  refine h.add (Fr.below (ba w _)) (rowC_good _ _ _ _ _) ?_ (fun k hk => ?_)
  · refine ⟨by rw [flatE_len], Or.inr ⟨w.heap.size, l.length, (flatE l).toArray, rfl, Nat.zero_le _, heap_alloc_new w _, Nat.le_refl _, hl, by rw [List.size_toArray, flatE_len], by rw [← flatE_len]; simp⟩⟩
  · have : k = w.heap.size := by simpa [rowC, Value.ownBlock, eq_comm] using hk
    subst this
    exact ⟨Nat.le_refl _, by simp⟩

theorem Try.fields39 : Try.prog.underlying 39 = some (.struct (Try.prog.fieldsOf 39)) := by kernel_rfl
theorem Try.held39 : Try.prog.stoodInHeld 39 = false := by kernel_rfl
theorem Try.fieldsOf39 : Try.prog.fieldsOf 39 = #[{ name := "Client", type := 3, offset := 0, embedded := false, tag := "", pkgPath := "", byteOffset := 0 }, { name := "Number", type := 3, offset := 1, embedded := false, tag := "", pkgPath := "", byteOffset := 8 }, { name := "Op", type := 37, offset := 2, embedded := false, tag := "", pkgPath := "", byteOffset := 16 }] := by kernel_rfl
theorem Try.fields37 : Try.prog.underlying 37 = some (.struct (Try.prog.fieldsOf 37)) := by kernel_rfl
theorem Try.held37 : Try.prog.stoodInHeld 37 = false := by kernel_rfl
theorem Try.fieldsOf37 : Try.prog.fieldsOf 37 = #[{ name := "Kind", type := 3, offset := 0, embedded := false, tag := "", pkgPath := "", byteOffset := 0 }, { name := "Name", type := 9, offset := 1, embedded := false, tag := "", pkgPath := "", byteOffset := 8 }, { name := "Text", type := 9, offset := 2, embedded := false, tag := "", pkgPath := "", byteOffset := 24 }, { name := "Num", type := 3, offset := 3, embedded := false, tag := "", pkgPath := "", byteOffset := 40 }, { name := "Most", type := 3, offset := 4, embedded := false, tag := "", pkgPath := "", byteOffset := 48 }] := by kernel_rfl

theorem str_len (b : ByteArray) : b.data.toList.length = b.size := by rw [Array.length_toList]; rfl
theorem toList_loop (b : ByteArray) : ∀ (d i : Nat) (r : List UInt8), b.size - i = d → ByteArray.toList.loop b i r = r.reverse ++ b.data.toList.drop i := by
  intro d
  induction d with
  | zero =>
    intro i r h
    unfold ByteArray.toList.loop
    rw [if_neg (by omega), List.drop_of_length_le (by rw [str_len]; omega)]
    simp
  | succ d ih =>
    intro i r h
    unfold ByteArray.toList.loop
    rw [if_pos (by omega), ih (i + 1) _ (by omega)]
    have hi : i < b.data.toList.length := by rw [str_len]; omega
    rw [List.drop_eq_getElem_cons hi]
    simp only [List.reverse_cons, List.append_assoc, List.cons_append, List.nil_append]
    congr 2
    simp only [ByteArray.get!, Array.getElem_toList]
    exact getElem!_pos b.data i (by simpa using hi)
theorem toList_inj {s t : ByteArray} (h : s.toList = t.toList) : s = t := by
  unfold ByteArray.toList at h
  rw [toList_loop s _ 0 [] rfl, toList_loop t _ 0 [] rfl] at h
  simp at h
  cases s; cases t
  simpa using h

theorem eq39 (x y : Ent) (w : World) : (Op.equalIn 10000 39 x.V y.V).run Try.prog w = .ok (decide (x = y)) w := by
  have h := run_equalIn_agg (P := Try.prog) w 9999 39 #[.int .i64 x.c, .int .i64 x.n, .int .i64 x.k, .string x.nm, .string x.tx, .int .i64 x.m, .int .i64 x.q] #[.int .i64 y.c, .int .i64 y.n, .int .i64 y.k, .string y.nm, .string y.tx, .int .i64 y.m, .int .i64 y.q] Try.fields39 Try.held39
  rw [Try.fieldsOf39] at h
  refine h.trans ?_
  have hi := fun d a b => run_equalIn_int (P := Try.prog) w d 3 .i64 .i64 a b Try.underlying3
  have hs := fun d t u => run_equalIn_string (P := Try.prog) w d 9 t u Try.underlying9
  have f37 := Try.fieldsOf37
  simp only [Op.eqFields]
  go_simp
  have e : (x = y) = (x.c = y.c ∧ x.n = y.n ∧ (x.k = y.k ∧ x.nm = y.nm ∧ x.tx = y.tx ∧ x.m = y.m ∧ x.q = y.q)) := by
    cases x; cases y; simp
  have es : ∀ a b : ByteArray, (a.toList = b.toList) = (a = b) := fun a b => propext ⟨toList_inj, fun h => by rw [h]⟩
  simp only [es]
  rw [show decide (x = y) = decide (x.c = y.c ∧ x.n = y.n ∧ (x.k = y.k ∧ x.nm = y.nm ∧ x.tx = y.tx ∧ x.m = y.m ∧ x.q = y.q)) from decide_eq_decide.2 (iff_of_eq e)]
  by_cases h1 : x.c = y.c
  case neg => simp [h1]
  by_cases h2 : x.n = y.n
  case neg => simp [h1, h2]
  by_cases h3 : x.k = y.k
  case neg => simp [h1, h2, h3]
  by_cases h4 : x.nm = y.nm
  case neg => simp [h1, h2, h3, h4]
  by_cases h5 : x.tx = y.tx
  case neg => simp [h1, h2, h3, h4, h5]
  by_cases h6 : x.m = y.m
  case neg => simp [h1, h2, h3, h4, h5, h6]
  by_cases h7 : x.q = y.q
  case neg => simp [h1, h2, h3, h4, h5, h6, h7]
  simp [h1, h2, h3, h4, h5, h6, h7]
end Go.Proofs.Ythjoppgomopkfaa
