import Derived.Test.YtaomhahmpbfjhaaJ1
import Derived.Test.YtaomhahmpbfjhaaJ8
namespace Go.Proofs.Ytaomhahmpbfjhaa
open Go.RowKit
set_option linter.unusedVariables false

/-- Bytes that were handed out, and what stands all over them. -/
structure Mk where
  a : Option Addr
  m : Nat
  c : Nat
  s : Int
def Mk.cells (x : Mk) : List Value := [.slice x.a x.m x.c, .int .u8 x.s]
def Mk.comp (x : Mk) : Comp := ownC 5 (.slice x.a x.m x.c) (List.replicate x.m (.int .u8 x.s))
def flatM (l : List Mk) : List Value := l.flatMap Mk.cells
def markC (v : Value) (l : List Mk) : Comp := rowC 79 2 v l.length (flatM l)
theorem flatM_snoc (l : List Mk) (e : Mk) : flatM (l ++ [e]) = flatM l ++ e.cells := by simp [flatM]
theorem flatM_at {l : List Mk} {i : Nat} {x : Mk} (h : l[i]? = some x) {j : Nat} (hj : j < 2) : (flatM l)[i * 2 + j]? = x.cells[j]? := by
  induction l generalizing i with
  | nil => simp at h
  | cons y l ih =>
    rw [flatM, List.flatMap_cons]
    cases i with
    | zero =>
      simp only [List.getElem?_cons_zero, Option.some.injEq] at h
      subst h
      rw [Nat.zero_mul, Nat.zero_add, List.getElem?_append_left (by simpa [Mk.cells] using hj)]
    | succ i =>
      rw [List.getElem?_append_right (by simp [Mk.cells]; omega)]
      have := ih (i := i) (by simpa using h)
      rw [← this]
      simp only [Mk.cells, List.length_cons, List.length_nil, flatM]
      congr 1
      omega
theorem Try.info79 : (Try.prog.info? 79).map (fun i => (i.zero, i.size, i.bytes)) = some (some (.agg #[.slice none 0 0, .int .u8 0]), 2, 32) := by kernel_rfl
theorem Mk.one (x : Mk) : ∀ u ∈ x.cells, u.oneCell' = true := by
  intro u hu
  simp only [Mk.cells, List.mem_cons, List.not_mem_nil, or_false] at hu
  rcases hu with rfl | rfl <;> rfl
/-- One more that was handed out. -/
theorem app_mark {W : World} {K : Nat} {x : Mk} {v : Value} {l : List Mk} {cs : List Comp} (A : All (markC v l :: cs) W) (hK : W.heap[K]? = some (.cells x.cells.toArray 79 (0, 0))) (hlen : (l.length + 1) * 32 ≤ 140737488355328) :
    ∃ ao c w', (Builtin.append_ #[33, 33] 33 #[v, .slice (some ⟨K, 0, none⟩) 1 1]).run Try.prog W = .ok (.slice ao (l.length + 1) c) w' ∧ All (markC (.slice ao (l.length + 1) c) (l ++ [x]) :: cs) w' := by
  obtain ⟨i1, hi1, hz0, hz1, hz2⟩ := info_parts Try.info79
  obtain ⟨v', w', hr, h2, h3, h4, h5⟩ := run_append_own_at (P := Try.prog) W 0 33 33 79 i1 _ 2 32 Try.underlying33 hi1 hz0 hz1 hz2 rfl (by decide) v l.length (flatM l) A.1.2.1 ⟨K, 0, none⟩ 1 1 x.cells rfl
    (fun j u hu => by rw [Addr.add_lit, Nat.zero_add, cell_at hK]; exact (List.getElem?_toArray ..).trans hu) x.one (by unfold maxLen; omega) hlen (by omega)
  obtain ⟨ao, c, rfl⟩ := owns_form h2
  exact ⟨ao, c, w', hr, A.rowGrow (vs' := flatM (l ++ [x])) (n' := (l ++ [x]).length) (by rw [flatM_snoc, List.length_append]; exact h2) h3 h5⟩

set_option maxHeartbeats 1600000 in
set_option maxRecDepth 1000000 in
theorem takes_any {D : Nat} {va vb vm v : Value} {l : List Value} {M : List Mk} {cs : List Comp} {w : World} (hA : All (ownC 5 v l :: blkC D [va, vb, vm] 35 :: markC vm M :: cs) w) (hl : l.length ≤ 1048576) (hM : M.length ≤ 1099511627776) : Calls Try.prog 48 #[.pointer (some ⟨D, 0, none⟩), v] w fun e w' => e = .returned (.tuple #[]) ∧ ∃ x vm', x.m = l.length + 9 ∧ All (Mk.comp x :: blkC D [va, vb, vm'] 35 :: markC vm' (M ++ [x]) :: cs) w' := by
  obtain ⟨am, cm, rfl⟩ := owns_form (show w.ownsRow 0 79 2 vm M.length (flatM M) from hA.tail.tail.1.2.1)
  have hD := hA.tail.1.2.1
  have c2 : w.cell? ⟨D, 2, none⟩ = some (.slice am M.length cm) := by rw [cell_at hD]; rfl
  obtain ⟨ao, c, hv⟩ := owns_form hA.1.2.1
  subst hv
  have H0 := hid hA
  clear hA hD
  go_enter Try.func48, Try.ntmps48
  go_upto_region 1 with fail
  generalize ((M.length : Int) * 7 + 1) % 256 = s
  have C26 : Hid (Calls Try.prog 26 #[.slice ao l.length c, .int .u8 s] w.drew fun e w' => ∃ a2 c2, e = .returned (.slice a2 (l.length + 9) c2) ∧ w'.cell? ⟨D, 2, none⟩ = some (.slice am M.length cm) ∧ D < w'.heap.size ∧ (∃ ao3 c3 w3, (Builtin.append_ #[33, 33] 33 #[.slice am M.length cm, .slice (some ⟨w'.heap.size, 0, none⟩) 1 1]).run Try.prog (w'.alloc (.cells #[.slice a2 (l.length + 9) c2, .int .u8 s] 79)) = .ok (.slice ao3 (M.length + 1) c3) w3 ∧ w3.cell? ⟨D, 2, none⟩ = some (.slice am M.length cm) ∧ w3.frozen? ⟨D, 2, none⟩ = false ∧ Hid (∃ x vm', x.m = l.length + 9 ∧ All (Mk.comp x :: blkC D [va, vb, vm'] 35 :: markC vm' (M ++ [x]) :: cs) (w3.setCell ⟨D, 2, none⟩ (.slice ao3 (M.length + 1) c3))))) := hid (by
    refine (spoil_any H0.out.drew s (by omega)).mono ?_
    rintro e w' ⟨a2, c2, rfl, A8⟩
    have hD := A8.tail.1.2.1
    have A9 : All (markC (.slice am M.length cm) M :: blkC D [va, vb, .slice am M.length cm] 35 :: Mk.comp ⟨a2, l.length + 9, c2, s⟩ :: cs) w' := A8.perm (by
      refine (List.Perm.cons _ (List.Perm.swap _ _ _)).trans ((List.Perm.swap _ _ _).trans (List.Perm.cons _ (List.Perm.swap _ _ _)))
      )
    obtain ⟨ao3, c3, w3, hr, A⟩ := app_mark (x := ⟨a2, l.length + 9, c2, s⟩) (A9.alloc (.cells #[.slice a2 (l.length + 9) c2, .int .u8 s] 79)) (heap_alloc_new w' _) (by omega)
    have hD3 := A.tail.1.2.1
    refine ⟨a2, c2, rfl, by rw [cell_at hD]; rfl, (Array.getElem?_eq_some_iff.1 hD).1, ao3, c3, w3, hr, by rw [cell_at hD3]; rfl, free_at hD3 2, hid ⟨⟨a2, l.length + 9, c2, s⟩, .slice ao3 (M.length + 1) c3, rfl, ?_⟩⟩
    have B := A.swap.setBlk 2 (.slice ao3 (M.length + 1) c3)
    exact B.perm ((List.Perm.cons _ (List.Perm.swap _ _ _)).trans (List.Perm.swap _ _ _) |>.trans (List.Perm.refl _)))
  clear H0
  go_region_law (first
    | (go_simp; go_at_call 26; refine C26.out.mono ?_; rintro e w8 ⟨a2, c9, rfl, s1, s2, ao3, c3, w9, hr, s3, s4, HI⟩; have HR := hid hr; clear hr)
    | (refine step_append_run (by rfl) (.tmp 17) (.tmp 23) 33 (by rfl) _ _ _ _ (by rfl) (by rfl) HR.out ?_))
  all_goals clear HR s1 s2 C26
  all_goals (go_end0; exact ⟨rfl, HI.out⟩)
end Go.Proofs.Ytaomhahmpbfjhaa

namespace Go.Proofs.Ytaomhahmpbfjhaa
open Go.RowKit
set_option linter.unusedVariables false

theorem sel_cons (N : Nodes) (lv a k : Nat) (l : List Nat) : sel N lv a (k :: l) = (if lv ≤ k ∧ a < (N k).1 then [(k - lv, (N k).1, (N k).2.2)] else []) ++ sel N lv a l := by
  unfold sel
  by_cases h : lv ≤ k ∧ a < (N k).1
  · simp [h]
  · simp [h]

/-- Where something is newer, a sheet is found. -/
theorem vis_found {N : Nodes} {lv a : Nat} (hO : ∀ j, 1 ≤ j → j < lv → Ord N j) : ∀ e k, Ht lv e k → 1 ≤ k → a < (N k).1 → 1 ≤ (sel N lv a (vis N a e k)).length
  | 0, k, hh, hk, ha => by
    have := hh.leaf
    simp [vis, sel, this.1, ha]
  | e + 1, k, hh, hk, ha => by
    obtain ⟨h1, h2, h3⟩ := hh.inner
    have ho := hO k hk h1
    unfold Ord at ho
    have hc : ¬ (N k).1 ≤ a := by omega
    rw [vis, if_neg hc, sel_cons, if_neg (by omega), List.nil_append, sel_append, List.length_append]
    by_cases h4 : a < (N (2 * k)).1
    · have := vis_found (a := a) hO e (2 * k) h2 (by omega) h4
      omega
    · have := vis_found (a := a) hO e (2 * k + 1) h3 (by omega) (by omega)
      omega

/-- No more nodes than so many for each sheet that is found. -/
theorem vis_bound {N : Nodes} {lv a : Nat} (hO : ∀ j, 1 ≤ j → j < lv → Ord N j) : ∀ e k, Ht lv e k → 1 ≤ k → (vis N a e k).length ≤ 1 + 2 * e * (sel N lv a (vis N a e k)).length
  | 0, k, hh, hk => by simp [vis]
  | e + 1, k, hh, hk => by
    obtain ⟨h1, h2, h3⟩ := hh.inner
    by_cases hc : (N k).1 ≤ a
    · rw [vis, if_pos hc]; simp
    · have hf := vis_found (a := a) hO (e + 1) k hh hk (by omega)
      have b1 := vis_bound (a := a) hO e (2 * k) h2 (by omega)
      have b2 := vis_bound (a := a) hO e (2 * k + 1) h3 (by omega)
      rw [vis, if_neg hc, sel_cons, if_neg (by omega), List.nil_append, sel_append, List.length_append] at hf ⊢
      rw [List.length_cons, List.length_append]
      generalize (sel N lv a (vis N a e (2 * k))).length = f1 at *
      generalize (sel N lv a (vis N a e (2 * k + 1))).length = f2 at *
      have e1 : 2 * e * (f1 + f2) = 2 * e * f1 + 2 * e * f2 := Nat.mul_add _ _ _
      have e2 : 2 * (e + 1) * (f1 + f2) = 2 * e * (f1 + f2) + 2 * (f1 + f2) := by rw [Nat.mul_add 2 e 1, Nat.add_mul]
      omega

theorem vis_pos (N : Nodes) (a e k : Nat) : 1 ≤ (vis N a e k).length := by
  cases e with
  | zero => simp [vis]
  | succ e => unfold vis; split <;> simp
theorem vis_one {N : Nodes} {a e k : Nat} (h : (N k).1 ≤ a) : (vis N a e k).length = 1 := by
  cases e with
  | zero => simp [vis]
  | succ e => rw [vis, if_pos h]; rfl
theorem vis_three {N : Nodes} {a e k : Nat} (h : ¬ (N k).1 ≤ a) : 3 ≤ (vis N a (e + 1) k).length := by
  rw [vis, if_neg h]
  have h1 := vis_pos N a e (2 * k)
  have h2 := vis_pos N a e (2 * k + 1)
  simp only [List.length_cons, List.length_append]
  omega

/-- What the law asks of a book. -/
theorem looks_ok {P : Pool} {n h : Nat} {ps : List Nat} {N : Nodes} {S : Sheets} (hB : Bk P n (2 ^ h) ps N S) (hh : h ≤ 6) (at_ : Int) :
    let k := (sel N (2 ^ h) at_.toNat (vis N at_.toNat h 1)).length
    let lk := looksN N at_ h
    k ≤ 127 ∧ lk ≤ 127 ∧ (k = 0 → lk = 1) ∧ (k ≠ 0 → lk ≤ 1 + 12 * k ∧ 1 ≤ lk ∧ (n > 1 ∨ lk = 1) ∧ (n = 1 ∨ lk ≥ 3)) := by
  intro k lk
  have hO := hB.ord
  have b := vis_bound (a := at_.toNat) hO h 1 (Ht.root h) (by omega)
  have l127 := vis_127 N at_.toNat hh 1
  have n1 := hB.n1
  have nlv := hB.nlv
  have lvn := hB.lvn
  have k64 : k ≤ 127 := Nat.le_trans (sel_len _ _ _ _) l127
  refine ⟨k64, l127, fun hk => ?_, fun hk => ?_⟩
  · by_cases hc : (N 1).1 ≤ at_.toNat
    · exact vis_one hc
    · have := vis_found hO h 1 (Ht.root h) (by omega) (by omega : at_.toNat < (N 1).1)
      have hk' : (sel N (2 ^ h) at_.toNat (vis N at_.toNat h 1)).length = 0 := hk
      omega
  · have hc : ¬ (N 1).1 ≤ at_.toNat := by
      intro hc
      apply hk
      show (sel N (2 ^ h) at_.toNat (vis N at_.toNat h 1)).length = 0
      have h1 : vis N at_.toNat h 1 = [1] := by
        cases h with
        | zero => rfl
        | succ e => rw [vis, if_pos hc]
      rw [h1, sel_cons, if_neg (by omega)]
      rfl
    have hb : lk ≤ 1 + 2 * h * k := b
    have h12 : 2 * h * k ≤ 12 * k := Nat.mul_le_mul_right k (by omega)
    refine ⟨by omega, vis_pos _ _ _ _, ?_, ?_⟩
    · by_cases hn : n > 1
      · exact .inl hn
      · right
        have : h = 0 := by
          cases h with
          | zero => rfl
          | succ e =>
            have : 2 ^ (e + 1) = 2 * 2 ^ e := by rw [Nat.pow_succ]; omega
            have hp : 0 < 2 ^ e := Nat.pow_pos (by omega)
            omega
        subst this
        rfl
    · by_cases hn : n = 1
      · exact .inl hn
      · right
        cases h with
        | zero => simp at nlv; omega
        | succ e => exact vis_three hc

end Go.Proofs.Ytaomhahmpbfjhaa

namespace Go.Proofs.Ytaomhahmpbfjhaa
open Go.RowKit
set_option linter.unusedVariables false

/-- A call that was asked for. -/
structure Ac where
  kind : Int
  book : Int
  num : Int
  at_ : Int
  d1 : Option Addr
  d2 : Nat
  d3 : Nat
  l1 : Option Addr
  l2 : Nat
  l3 : Nat
  data : List UInt8

def Ac.cells (x : Ac) : List Value := [.int .i64 x.kind, .int .i64 x.book, .int .i64 x.num, .int .i64 x.at_, .slice x.d1 x.d2 x.d3, .slice x.l1 x.l2 x.l3]

/-- A script that came in. -/
def ActsAt (W : World) (v : Value) (xs : List Ac) : Prop :=
  ∃ ao c, v = .slice ao xs.length c ∧ (xs = [] ∨ ∃ b o, ao = some ⟨b, o, none⟩ ∧ b < W.heap.size ∧ ∀ i x, xs[i]? = some x → (∀ j u, x.cells[j]? = some u → W.cell? ⟨b, o + i * 6 + j, none⟩ = some u) ∧ Reads W (.slice x.d1 x.d2 x.d3) x.data)

theorem ActsAt.form {W : World} {v : Value} {xs : List Ac} (h : ActsAt W v xs) : ∃ ao c, v = .slice ao xs.length c := by
  obtain ⟨ao, c, rfl, _⟩ := h
  exact ⟨ao, c, rfl⟩
theorem ActsAt.at {W W' : World} {ao : Option Addr} {n c i : Nat} {xs : List Ac} {x : Ac} (h : ActsAt W (.slice ao n c) xs) (hb : Below W.heap.size W W') (hx : xs[i]? = some x) : ∃ b o, ao = some ⟨b, o, none⟩ ∧ b < W.heap.size ∧ (∀ j u, x.cells[j]? = some u → W'.cell? ⟨b, o + i * 6 + j, none⟩ = some u) ∧ Reads W' (.slice x.d1 x.d2 x.d3) x.data := by
  obtain ⟨ao', c', e, hc⟩ := h
  simp only [Value.slice.injEq] at e
  obtain ⟨rfl, rfl, rfl⟩ := e
  rcases hc with rfl | ⟨b, o, rfl, hlt, hall⟩
  · simp at hx
  · obtain ⟨h1, h2⟩ := hall i x hx
    exact ⟨b, o, rfl, hlt, fun j u hu => cell_under hb hlt (h1 j u hu), h2.below hb⟩

end Go.Proofs.Ytaomhahmpbfjhaa
