import Derived.Test.YtblojlaifnmimaaGreatDoorJ15
import Derived.Test.YtblojlaifnmimaaGreatDoorJ3
import Derived.Deep.Draws
import Derived.Deep.Upon
import Derived.Test.YtblojlaifnmimaaGreatDoorJ10
import Derived.Test.YtblojlaifnmimaaGreatDoorJ11
namespace Go.Proofs.YtblojlaifnmimaaGreatDoor
open Go.RowKit
set_option linter.unusedVariables false

theorem kindW_some {x : List UInt8} {k : Nat} (h : kindW x = some k) : nmN k = x := by
  have key : ∀ {l : Ws} {a j : Nat}, findW x a l = some j → l.getD (j - a) [] = x := by
    intro l
    induction l with
    | nil => intro a j h; simp [findW] at h
    | cons y r ih =>
      intro a j h
      have hb : a ≤ j := by
        have : ∀ {l : Ws} {a j : Nat}, findW x a l = some j → a ≤ j := by
          intro l
          induction l with
          | nil => intro a j h; simp [findW] at h
          | cons y r ih =>
            intro a j h
            rw [findW] at h
            split at h
            · simp only [Option.some.injEq] at h; omega
            · have := ih h; omega
        exact this h
      rw [findW] at h
      split at h
      · rename_i hy
        simp only [Option.some.injEq] at h
        subst h
        simp [hy]
      · rename_i hy
        have h1 := ih h
        have hlt : a + 1 ≤ j := by
          have : ∀ {l : Ws} {a j : Nat}, findW x a l = some j → a ≤ j := by
            intro l
            induction l with
            | nil => intro a j h; simp [findW] at h
            | cons y r ih =>
              intro a j h
              rw [findW] at h
              split at h
              · simp only [Option.some.injEq] at h; omega
              · have := ih h; omega
          exact this h
        have : j - a = (j - (a + 1)) + 1 := by omega
        rw [this, List.getD_cons_succ]
        exact h1
  obtain ⟨h1, h9⟩ := kindW_lt h
  have := key h
  rw [← this]
  obtain rfl | rfl | rfl | rfl | rfl | rfl | rfl | rfl : k = 1 ∨ k = 2 ∨ k = 3 ∨ k = 4 ∨ k = 5 ∨ k = 6 ∨ k = 7 ∨ k = 8 := by omega
  all_goals rfl
/-- The fields by the kind. -/
theorem goO_1 {k : Nat} (h : k = 1 ∨ k = 2 ∨ k = 7) (ws : Ws) : goO (ltN k) ws ⟨(k : Int), [], [], 0, 0⟩ = some ⟨(k : Int), ws.getD 0 [], [], 0, 0⟩ := by
  rcases h with rfl | rfl | rfl <;> rfl
theorem goO_8 (ws : Ws) : goO (ltN 8) ws ⟨((8 : Nat) : Int), [], [], 0, 0⟩ = some ⟨((8 : Nat) : Int), [], [], 0, 0⟩ := rfl
theorem goO_3 {k : Nat} (h : k = 3 ∨ k = 5) (ws : Ws) : goO (ltN k) ws ⟨(k : Int), [], [], 0, 0⟩ = some ⟨(k : Int), ws.getD 0 [], ws.getD 1 [], 0, 0⟩ := by
  have e : (ws.drop 1).getD 0 [] = ws.getD 1 [] := by simp [List.getD]
  rw [← e]
  rcases h with rfl | rfl <;> rfl
theorem goO_4 (ws : Ws) : goO (ltN 4) ws ⟨((4 : Nat) : Int), [], [], 0, 0⟩ = if (numW (ws.getD 1 [])).isSome then some ⟨((4 : Nat) : Int), ws.getD 0 [], [], (numW (ws.getD 1 [])).getD 0, 0⟩ else none := by
  have e : (ws.drop 1).getD 0 [] = ws.getD 1 [] := by simp [List.getD]
  rw [← e]
  rfl
theorem goO_6 (ws : Ws) : goO (ltN 6) ws ⟨((6 : Nat) : Int), [], [], 0, 0⟩ = if (numW (ws.getD 1 [])).isSome then (if (numW (ws.getD 2 [])).isSome then some ⟨((6 : Nat) : Int), ws.getD 0 [], [], (numW (ws.getD 1 [])).getD 0, (numW (ws.getD 2 [])).getD 0⟩ else none) else none := by
  have e : (ws.drop 1).getD 0 [] = ws.getD 1 [] := by simp [List.getD]
  have e2 : ((ws.drop 1).drop 1).getD 0 [] = ws.getD 2 [] := by simp [List.getD]
  rw [← e, ← e2]
  rfl
theorem spelt {x : List UInt8} (h : (numW x).isSome = true) : Lib.decDigits ((numW x).getD 0) = x := by
  obtain ⟨v, hv⟩ := Option.isSome_iff_exists.1 h
  rw [hv]
  exact (numW_spelt hv).symm
theorem take_getD {ws : Ws} {n : Nat} (h : n < ws.length) : ws.take (n + 1) = ws.take n ++ [ws.getD n []] := by
  rw [List.take_add_one, List.getElem?_eq_getElem h]
  simp [List.getD, h]
/-- Fields read well are fields written. -/
theorem goO_ok {k : Nat} {ws : Ws} {o : OpR} (h1 : 1 ≤ k) (h9 : k < 9) (hl : (ltN k).length ≤ ws.length) (h : goO (ltN k) ws ⟨(k : Int), [], [], 0, 0⟩ = some o) : o.k = k ∧ flds o.nm o.tx o.n o.m (ltN k) = ws.take (ltN k).length := by
  have t1 : 0 < ws.length → ws.take 1 = [ws.getD 0 []] := fun h => by rw [take_getD h]; simp
  have t2 : 1 < ws.length → ws.take 2 = [ws.getD 0 [], ws.getD 1 []] := fun h => by rw [take_getD h, t1 (by omega)]; rfl
  have t3 : 2 < ws.length → ws.take 3 = [ws.getD 0 [], ws.getD 1 [], ws.getD 2 []] := fun h => by rw [take_getD h, t2 (by omega)]; rfl
  obtain rfl | rfl | rfl | rfl | rfl | rfl | rfl | rfl : k = 1 ∨ k = 2 ∨ k = 3 ∨ k = 4 ∨ k = 5 ∨ k = 6 ∨ k = 7 ∨ k = 8 := by omega
  · rw [goO_1 (by omega)] at h
    obtain rfl := Option.some.inj h
    exact ⟨rfl, (t1 hl).symm⟩
  · rw [goO_1 (by omega)] at h
    obtain rfl := Option.some.inj h
    exact ⟨rfl, (t1 hl).symm⟩
  · rw [goO_3 (by omega)] at h
    obtain rfl := Option.some.inj h
    exact ⟨rfl, (t2 hl).symm⟩
  · rw [goO_4] at h
    split at h
    · rename_i hs
      obtain rfl := Option.some.inj h
      refine ⟨rfl, ?_⟩
      show [_, Lib.decDigits _] = ws.take 2
      rw [t2 hl, spelt hs]
      rfl
    · cases h
  · rw [goO_3 (by omega)] at h
    obtain rfl := Option.some.inj h
    exact ⟨rfl, (t2 hl).symm⟩
  · rw [goO_6] at h
    split at h
    · rename_i hs
      split at h
      · rename_i hs2
        obtain rfl := Option.some.inj h
        refine ⟨rfl, ?_⟩
        show [_, Lib.decDigits _, Lib.decDigits _] = ws.take 3
        rw [t3 hl, spelt hs, spelt hs2]
        rfl
      · cases h
    · cases h
  · rw [goO_1 (by omega)] at h
    obtain rfl := Option.some.inj h
    exact ⟨rfl, (t1 hl).symm⟩
  · rw [goO_8] at h
    obtain rfl := Option.some.inj h
    exact ⟨rfl, rfl⟩
/-- What is read well is what is written. -/
theorem readO_ok {l : Ws} (h : (readO l).e = 0) : chkR8 (readO l).o = 0 ∧ opA (readO l).o.k (readO l).o.nm (readO l).o.tx ((readO l).o.n : Int) ((readO l).o.m : Int) = l.take (readO l).k ∧ (readO l).k ≤ l.length := by
  cases l with
  | nil => exact absurd h (by decide)
  | cons x ws =>
    cases hk : kindW x with
    | none =>
      have e : readO (x :: ws) = .bad 163 := by
        unfold readO
        rw [if_neg (by simp)]
        have e : (x :: ws).getD 0 [] = x := rfl
        rw [e, hk]
      rw [e] at h
      exact absurd h (by decide)
    | some k =>
      obtain ⟨h1, h9⟩ := kindW_lt hk
      have e := readO_eq (ws := ws) hk
      by_cases hl : (x :: ws).length < 1 + (ltN k).length
      · rw [e, if_pos hl] at h
        exact absurd h (by decide)
      · rw [if_neg hl] at e
        cases hg : goO (ltN k) ws ⟨(k : Int), [], [], 0, 0⟩ with
        | none =>
          rw [hg] at e
          simp only at e
          rw [e] at h
          exact absurd h (by decide)
        | some o =>
          rw [hg] at e
          simp only at e
          by_cases hc : chkR8 o ≠ 0
          · rw [e, if_pos hc] at h
            exact absurd h hc
          · rw [if_neg hc] at e
            have hc0 : chkR8 o = 0 := Classical.byContradiction hc
            rw [e]
            have hlw : (ltN k).length ≤ ws.length := by simp only [List.length_cons] at hl; omega
            obtain ⟨ok, of⟩ := goO_ok h1 h9 hlw hg
            refine ⟨hc0, ?_, by simp only [List.length_cons]; omega⟩
            simp only
            unfold opA
            have hc1 : chkO o.k o.nm o.tx (o.n : Int) (o.m : Int) = 0 := hc0
            rw [hc1, if_neg (by simp), ok]
            simp only [Int.toNat_natCast]
            unfold opW
            rw [of, kindW_some hk, Nat.add_comm 1]
            rfl
end Go.Proofs.YtblojlaifnmimaaGreatDoor

namespace Go.Proofs.YtblojlaifnmimaaGreatDoor
open Go.RowKit
set_option linter.unusedVariables false
/-- A row of one's own, whatever its elements' size. -/
def rowC (e : TypeId) (size : Nat) (v : Value) (n : Nat) (vs : List Value) : Comp := ⟨fun w => w.ownsRow 0 e size v n vs, v.ownBlock.toList⟩
theorem owns_keep {w w' : World} {e : TypeId} {size n : Nat} {v : Value} {vs : List Value} (h : w.ownsRow 0 e size v n vs) (hb : ∀ k ∈ v.ownBlock.toList, w'.heap[k]? = w.heap[k]?) : w'.ownsRow 0 e size v n vs :=
  ⟨h.1, by
    rcases h.2 with hn | ⟨g, cap, cur, rfl, hg, hgg, rest⟩
    · exact Or.inl hn
    · exact Or.inr ⟨g, cap, cur, rfl, hg, by rw [hb g (by simp [Value.ownBlock])]; exact hgg, rest⟩⟩
theorem rowC_good (e : TypeId) (size : Nat) (v : Value) (n : Nat) (vs : List Value) : (rowC e size v n vs).Good := fun w w' h hs hb => owns_keep h hb
theorem All.addRow0 {e : TypeId} {size : Nat} {cs : List Comp} {w : World} (h : All cs w) : All (rowC e size (.slice none 0 0) 0 [] :: cs) w :=
  ⟨⟨rowC_good _ _ _ _ _, ⟨by simp, Or.inl ⟨rfl, rfl⟩⟩, fun k hk => by simp [rowC, Value.ownBlock] at hk⟩, fun d hd k hk => by simp [rowC, Value.ownBlock] at hk, h⟩
theorem All.rowGrow {e : TypeId} {size n n' : Nat} {v v' : Value} {vs vs' : List Value} {cs : List Comp} {w w1 : World} {base : Nat} (h : All (rowC e size v n vs :: cs) w) (hown : w1.ownsRow base e size v' n' vs') (hg : w.grownBy w1 v.ownBlock) (hat : v'.ownBlock = v.ownBlock ∨ v'.ownBlock = some w.heap.size) : All (rowC e size v' n' vs' :: cs) w1 := by
  have ho' := owns_zero hown
  refine h.turn ((grown_fr hg).mono (fun k hk => by simpa [rowC] using hk)) (rowC_good _ _ _ _ _) ho' (fun k hk => ?_) (fun k hk => ?_)
  · have hk' : v'.ownBlock = some k := by simpa [rowC] using hk
    rcases hat with e1 | e1
    · exact Or.inl (by simp [rowC, ← e1, hk'])
    · rw [e1] at hk'; simp at hk'; exact Or.inr (by omega)
  · have hk' : v'.ownBlock = some k := by simpa [rowC] using hk
    exact (ho'.lt k hk').2
/-- Elements are laid behind a row of one's own. -/
theorem appN {W : World} {e t : TypeId} {i : TypeInfo} {z v : Value} {size bytes n m c : Nat} {us news : List Value} {cs : List Comp} (hu : Tryz.prog.underlying t = some (.slice e)) (hi : Tryz.prog.info? e = some i) (hz : i.zero = some z) (hsize : i.size = size) (hby : i.bytes = bytes) (hzs : z.cells.size = size) (hsz : 0 < size)
    (A : All (rowC e size v n us :: cs) W) (ao2 : Option Addr) (hl : news.length = m * size) (hnews : 0 < m → ∃ a, ao2 = some a ∧ ∀ j u, news[j]? = some u → W.cell? (a.add j) = some u) (h1 : ∀ u ∈ news, u.oneCell' = true) (h63 : n + m ≤ maxLen) (hb : (n + m) * bytes ≤ 140737488355328) :
    ∃ ao cap w', (Builtin.append_ #[t, t] t #[v, .slice ao2 m c]).run Tryz.prog W = .ok (.slice ao (n + m) cap) w' ∧ All (rowC e size (.slice ao (n + m) cap) (n + m) (us ++ news) :: cs) w' := by
  have hown : W.ownsRow 0 e size v n us := A.1.2.1
  by_cases hm : 0 < m
  · obtain ⟨a, rfl, hc⟩ := hnews hm
    obtain ⟨v', w', hr, h2, h3, h4, h5⟩ := run_append_own_at (P := Tryz.prog) W 0 t t e i z size bytes hu hi hz hsize hby hzs hsz v n us hown a m c news hl hc h1 h63 hb (by omega)
    obtain ⟨ao, cap, rfl⟩ := owns_form h2
    exact ⟨ao, cap, w', hr, A.rowGrow (base := 0) h2 h3 h5⟩
  · have hm0 : m = 0 := by omega
    subst hm0
    have hn0 : news = [] := List.length_eq_zero_iff.1 (by omega)
    subst hn0
    subst hsize
    rw [List.append_nil]
    rcases hown.2 with ⟨rfl, rfl⟩ | ⟨g, cap, cur, rfl, _, _, hle, _⟩
    · exact ⟨none, 0, W, run_append_nothing W t t t e i hu hi none 0 0 (Nat.le_refl _) _ (srcNil hu ao2 c), A⟩
    · exact ⟨_, cap, W, run_append_nothing W t t t e i hu hi _ n cap hle _ (srcNil hu ao2 c), A⟩
theorem All.addRowE {cs : List Comp} {w : World} (h : All cs w) (e : TypeId) (size : Nat) : All (rowC e size (.slice (some ⟨w.heap.size, 0, none⟩) 0 0) 0 [] :: cs) (w.alloc (.cells #[] e)) := by
  refine h.add (Fr.below (ba w _)) (rowC_good _ _ _ _ _) ?_ (fun k hk => ?_)
  · exact ⟨by simp, Or.inr ⟨w.heap.size, 0, #[], rfl, Nat.zero_le _, heap_alloc_new w _, Nat.le_refl _, by unfold maxLen; omega, by simp, by simp⟩⟩
  · have : k = w.heap.size := by simpa [rowC, Value.ownBlock, eq_comm] using hk
    subst this
    exact ⟨Nat.le_refl _, by simp⟩
/-- A row of one's own is read. -/
theorem row_at {w : World} {base : Nat} {e : TypeId} {size : Nat} {ao : Option Addr} {n c n' : Nat} {us : List Value} (h : w.ownsRow base e size (.slice ao n' c) n us) {k : Nat} {u : Value} (hu : us[k]? = some u) : ∃ g, ao = some ⟨g, 0, none⟩ ∧ g < w.heap.size ∧ w.cell? ⟨g, k, none⟩ = some u := by
  have hk := (List.getElem?_eq_some_iff.1 hu).1
  have hl := h.1
  rcases h.2 with ⟨e, e2⟩ | ⟨g, cap, cur, e, _, hg, hn, hm, hcs, ht⟩
  · subst e2; omega
  · simp only [Value.slice.injEq] at e
    refine ⟨g, e.1, (Array.getElem?_eq_some_iff.1 hg).1, ?_⟩
    rw [cell_at hg, ← Array.getElem?_toList]
    rw [← ht, List.getElem?_take, if_pos (by omega)] at hu
    exact hu
theorem row_cap {w : World} {base : Nat} {e : TypeId} {size : Nat} {ao : Option Addr} {n c n' : Nat} {us : List Value} (h : w.ownsRow base e size (.slice ao n' c) n us) : n' = n ∧ n ≤ c ∧ c ≤ maxLen := by
  rcases h.2 with ⟨e, e2⟩ | ⟨g, cap, cur, e, _, hg, hn, hm, hcs, ht⟩
  · simp only [Value.slice.injEq] at e
    obtain ⟨_, rfl, rfl⟩ := e
    exact ⟨e2.symm, by omega, by unfold maxLen; omega⟩
  · simp only [Value.slice.injEq] at e
    obtain ⟨_, rfl, rfl⟩ := e
    exact ⟨rfl, hn, hm⟩
theorem flat_len {α : Type} {f : α → List Value} {s : Nat} (hf : ∀ x, (f x).length = s) (l : List α) : (l.flatMap f).length = l.length * s := by
  induction l with
  | nil => simp
  | cons x l ih => rw [List.flatMap_cons, List.length_append, ih, hf, List.length_cons, Nat.succ_mul]; omega
theorem flat_at {α : Type} {f : α → List Value} {s : Nat} (hf : ∀ x, (f x).length = s) {l : List α} {i : Nat} {x : α} (hx : l[i]? = some x) {j : Nat} (hj : j < s) : (l.flatMap f)[i * s + j]? = (f x)[j]? := by
  induction l generalizing i with
  | nil => simp at hx
  | cons y l ih =>
    rw [List.flatMap_cons]
    cases i with
    | zero =>
      simp only [List.getElem?_cons_zero, Option.some.injEq] at hx
      subst hx
      rw [Nat.zero_mul, Nat.zero_add, List.getElem?_append_left (by rw [hf]; exact hj)]
    | succ i =>
      simp only [List.getElem?_cons_succ] at hx
      rw [List.getElem?_append_right (by rw [hf, Nat.succ_mul]; omega), hf, ← ih hx]
      congr 1
      rw [Nat.succ_mul]; omega
theorem flat_one {α : Type} {f : α → List Value} (hf : ∀ x, ∀ u ∈ f x, u.oneCell' = true) (l : List α) : ∀ u ∈ l.flatMap f, u.oneCell' = true := by
  intro u hu
  obtain ⟨x, _, h⟩ := List.mem_flatMap.1 hu
  exact hf x u h
/-- Cells that are read element by element are read as a row. -/
theorem flat_src {α : Type} {f : α → List Value} {s : Nat} (hs : 0 < s) (hf : ∀ x, (f x).length = s) {W : World} {ao : Option Addr} {l : List α} (h : ∀ (i : Nat) (x : α), l[i]? = some x → ∃ g o, ao = some ⟨g, o, none⟩ ∧ g < W.heap.size ∧ ∀ j u, (f x)[j]? = some u → W.cell? ⟨g, o + i * s + j, none⟩ = some u) :
    0 < l.length → ∃ a, ao = some a ∧ ∀ j u, (l.flatMap f)[j]? = some u → W.cell? (a.add j) = some u := by
  intro h0
  obtain ⟨g, o, rfl, _, _⟩ := h 0 _ (List.getElem?_eq_getElem h0)
  refine ⟨_, rfl, fun j u hu => ?_⟩
  have hj : j < l.length * s := by have := (List.getElem?_eq_some_iff.1 hu).1; rwa [flat_len hf] at this
  have hd : j / s < l.length := Nat.div_lt_of_lt_mul (by rw [Nat.mul_comm]; exact hj)
  obtain ⟨g', o', e, _, hc⟩ := h (j / s) _ (List.getElem?_eq_getElem hd)
  cases e
  have hm : j % s < s := Nat.mod_lt _ hs
  have h1 := flat_at hf (List.getElem?_eq_getElem hd) hm
  have h2 : j / s * s + j % s = j := by rw [Nat.mul_comm]; exact Nat.div_add_mod j s
  rw [h2, hu] at h1
  have h3 := hc (j % s) u h1.symm
  rw [Addr.add_lit]
  rw [show o + j / s * s + j % s = o + j by omega] at h3
  exact h3
/-- A row of one's own is read element by element. -/
theorem flat_row {α : Type} {f : α → List Value} {s : Nat} (hf : ∀ x, (f x).length = s) {W : World} {base : Nat} {e : TypeId} {ao : Option Addr} {n n' c : Nat} {l : List α} (hs : 0 < s) (h : W.ownsRow base e s (.slice ao n' c) n (l.flatMap f)) :
    ∀ (i : Nat) (x : α), l[i]? = some x → ∃ g o, ao = some ⟨g, o, none⟩ ∧ g < W.heap.size ∧ ∀ j u, (f x)[j]? = some u → W.cell? ⟨g, o + i * s + j, none⟩ = some u := by
  intro i x hx
  have hi := (List.getElem?_eq_some_iff.1 hx).1
  have hat : ∀ j u, (f x)[j]? = some u → ∃ g, ao = some ⟨g, 0, none⟩ ∧ g < W.heap.size ∧ W.cell? ⟨g, i * s + j, none⟩ = some u := by
    intro j u hu
    have hj : j < s := by have := (List.getElem?_eq_some_iff.1 hu).1; rwa [hf] at this
    exact row_at h (by rw [flat_at hf hx hj]; exact hu)
  obtain ⟨g, rfl, hg, _⟩ := hat 0 _ (List.getElem?_eq_getElem (by rw [hf]; exact hs))
  refine ⟨g, 0, rfl, hg, fun j u hu => ?_⟩
  obtain ⟨g', e, _, hc⟩ := hat j u hu
  cases e
  rw [Nat.zero_add]
  exact hc

end Go.Proofs.YtblojlaifnmimaaGreatDoor

namespace Go.Proofs.YtblojlaifnmimaaGreatDoor
open Go.RowKit
set_option linter.unusedVariables false

theorem splitW_ok {l : List UInt8} {ws : Ws} (h : splitW l = .ok ws) : l.length ≤ 8192 ∧ runW .ahead [] 0 l = .ok ws := by
  unfold splitW at h
  split at h
  · simp at h
  · exact ⟨by omega, h⟩
theorem err_ok {A : Ans} (h : A.err = 0) : A = .ok A.ws := by
  cases A <;> simp [Ans.err] at h <;> rfl
/-- A line's words are not longer than the line. -/
theorem lenJ_wsz (ws : Ws) : lenJ ws ≤ 16 * wsz ws := by
  unfold lenJ wsz
  induction ws with
  | nil => simp
  | cons x r ih => simp only [List.map_cons, List.sum_cons, List.length_cons] at ih ⊢; omega
theorem finW_wsz (s : St) (ws : Ws) (k : Nat) : wsz (finW s ws k).ws ≤ s.held + wsz ws := by
  cases s <;> simp [finW, Ans.ws, St.held, wsz] <;> omega
theorem runW_wsz : ∀ (t : List UInt8) (s : St) (ws : Ws) (k : Nat), wsz (runW s ws k t).ws ≤ s.held + wsz ws + 2 * t.length
  | [], s, ws, k => by rw [runW]; exact Nat.le_trans (finW_wsz s ws k) (by simp)
  | b :: t, s, ws, k => by
    rw [runW]
    cases hs : stepW s ws k b with
    | go s' ws' =>
      simp only
      have h1 := runW_wsz t s' ws' (k + 1)
      have h2 := stepW_held hs
      simp only [List.length_cons]
      omega
    | bad j => simp [Ans.ws, wsz]

end Go.Proofs.YtblojlaifnmimaaGreatDoor
