import Derived.Test.YtaomhahmpbfjhaaJ9
import Derived.Test.YtaomhahmpbfjhaaJ11
import Derived.Deep.RegionHeld3
import Derived.Deep.DeepCutAuto
import Derived.Deep.QuietTactic
import Derived.BigQuiet
import Derived.Test.YtaomhahmpbfjhaaJ10
namespace Go.Proofs.Ytaomhahmpbfjhaa
open Go.RowKit
set_option linter.unusedVariables false

theorem perm_by (n : Nat) (ls : List (List Comp)) (σ : List Nat) (hn : ls.length = n) (h : σ.Perm (List.range n)) : ls.flatten.Perm (σ.map fun i => ls.getD i []).flatten := by
  subst hn
  have h1 : ls = (List.range ls.length).map fun i => ls.getD i [] := by
    refine List.ext_getElem (by simp) fun i h1 h2 => ?_
    simp [List.getD, h1]
  have h2 := (h.map fun i => ls.getD i []).flatten
  rw [← h1] at h2
  exact h2.symm
theorem All.cab {a b c : Comp} {cs : List Comp} {w : World} (h : All (a :: b :: c :: cs) w) : All (c :: a :: b :: cs) w :=
  h.perm ((List.Perm.cons _ (List.Perm.swap _ _ _)).trans (List.Perm.swap _ _ _))
theorem All.bca {a b c : Comp} {cs : List Comp} {w : World} (h : All (a :: b :: c :: cs) w) : All (b :: c :: a :: cs) w :=
  h.perm ((List.Perm.swap _ _ _).trans (List.Perm.cons _ (List.Perm.swap _ _ _)))
theorem All.refF {p b : Comp} {l rest : List Comp} {w : World} (h : All (p :: b :: (l ++ rest)) w) : All (l ++ (p :: b :: rest)) w :=
  h.perm ((List.Perm.cons _ List.perm_middle.symm).trans List.perm_middle.symm)
theorem All.refG {p b : Comp} {l rest : List Comp} {w : World} (h : All (l ++ (p :: b :: rest)) w) : All (p :: b :: (l ++ rest)) w :=
  h.perm ((List.Perm.cons _ List.perm_middle.symm).trans List.perm_middle.symm).symm

/-- A book of the program, and the document's beside it. -/
structure Tq where
  g : Nat
  R : Nat
  lv : Nat
  ps : List Nat
  N : Nodes
  v : Value
  rs : List Xs
  S : Sheets
def Tq.parts (n : Nat) (t : Tq) : List Comp := blkC t.g (bookL n t.lv t.ps) 70 :: refL t.R t.v t.rs
structure Tq.ok (Q : Pool) (n : Nat) (t : Tq) : Prop where
  bk : Bk Q n t.lv t.ps t.N t.S
  rs : RS n t.rs t.S
theorem Tq.ok.mono {Q Q' : Pool} {n : Nat} {t : Tq} (h : t.ok Q n) (hs : ∀ x ∈ Q, x ∈ Q') : t.ok Q' n := ⟨h.bk.mono hs, h.rs⟩
def pA (T : List Tq) : List Value := T.map fun t => .pointer (some ⟨t.g, 0, none⟩)
def pB (T : List Tq) : List Value := T.map fun t => .pointer (some ⟨t.R, 0, none⟩)
theorem pA_len (T : List Tq) : (pA T).length = T.length := by simp [pA]
theorem pB_len (T : List Tq) : (pB T).length = T.length := by simp [pB]
def hdL (D : Nat) (va vb vm : Value) (ga gb : List Value) (M : List Mk) : List Comp := [blkC D [va, vb, vm] 35, ownC 23 va ga, ownC 27 vb gb, markC vm M] ++ M.map Mk.comp
def deskL (D n : Nat) (va vb vm : Value) (Q : Pool) (T : List Tq) (M : List Mk) : List Comp := hdL D va vb vm (pA T) (pB T) M ++ (poolC Q :: T.flatMap (Tq.parts n))
def OT (n : Nat) (T : List Tq) (k : Nat) : List Comp := (T.take k ++ T.drop (k + 1)).flatMap (Tq.parts n)
structure DF (Q : Pool) (n : Nat) (T : List Tq) (M : List Mk) (i : Nat) : Prop where
  ok : ∀ t ∈ T, t.ok Q n
  one : 1 ≤ T.length
  four : T.length ≤ 4
  few : M.length ≤ i
  short : ∀ x ∈ M, x.m ≤ 2313

theorem flat_mid {n : Nat} {T : List Tq} {i : Nat} {r : Tq} (h : T[i]? = some r) (X Z : List Comp) (r' : Tq) :
    (X ++ ((T.set i r').flatMap (Tq.parts n) ++ Z)).Perm (r'.parts n ++ (X ++ (OT n T i ++ Z))) ∧ (X ++ (T.flatMap (Tq.parts n) ++ Z)).Perm (r.parts n ++ (X ++ (OT n T i ++ Z))) := by
  have hi := (List.getElem?_eq_some_iff.1 h).1
  have e1 : T.set i r' = T.take i ++ r' :: T.drop (i + 1) := List.set_eq_take_append_cons_drop ▸ (by simp [hi])
  have e2 : T = T.take i ++ r :: T.drop (i + 1) := by
    have := (List.getElem?_eq_some_iff.1 h).2
    rw [← this]
    simp
  have key : ∀ y : Tq, (X ++ ((T.take i ++ y :: T.drop (i + 1)).flatMap (Tq.parts n) ++ Z)).Perm (y.parts n ++ (X ++ (OT n T i ++ Z))) := fun y => by
    have := List.perm_append_comm_assoc (X ++ (T.take i).flatMap (Tq.parts n)) (y.parts n) ((T.drop (i + 1)).flatMap (Tq.parts n) ++ Z)
    simpa [List.append_assoc, OT] using this
  refine ⟨by rw [e1]; exact key r', ?_⟩
  have := key r
  rw [← e2] at this
  exact this

theorem out_perm (n : Nat) (H : List Comp) (Q : Pool) (t : Tq) (O : List Comp) : (t.parts n ++ ((H ++ [poolC Q]) ++ O)).Perm (poolC Q :: blkC t.g (bookL n t.lv t.ps) 70 :: (refL t.R t.v t.rs ++ (H ++ O))) := by
  have := perm_by 4 [t.parts n, H, [poolC Q], O] [2, 0, 1, 3] rfl (by decide)
  simpa [List.getD, Tq.parts] using this
/-- One of the twins is taken out. -/
theorem desk_out {D n k : Nat} {va vb vm : Value} {Q : Pool} {T : List Tq} {M : List Mk} {t : Tq} {Z : List Comp} {w : World} (h : T[k]? = some t) (hA : All (deskL D n va vb vm Q T M ++ Z) w) : All (poolC Q :: blkC t.g (bookL n t.lv t.ps) 70 :: (refL t.R t.v t.rs ++ (hdL D va vb vm (pA T) (pB T) M ++ (OT n T k ++ Z)))) w := by
  refine hA.perm ?_
  have := ((flat_mid (n := n) h (hdL D va vb vm (pA T) (pB T) M ++ [poolC Q]) Z t).2).trans (out_perm n _ Q t _)
  simpa [deskL, List.append_assoc] using this
theorem pA_set {T : List Tq} {k : Nat} {t t' : Tq} (h : T[k]? = some t) (hg : t'.g = t.g) : pA (T.set k t') = pA T := by
  unfold pA
  rw [List.map_set]
  refine List.ext_getElem? fun i => ?_
  rw [List.getElem?_set]
  have hk := (List.getElem?_eq_some_iff.1 h).1
  split
  · rename_i e
    subst e
    rw [if_pos (by simpa using hk), List.getElem?_map, h, hg]
    rfl
  · rfl
theorem pB_set {T : List Tq} {k : Nat} {t t' : Tq} (h : T[k]? = some t) (hp : t'.R = t.R) : pB (T.set k t') = pB T := by
  unfold pB
  rw [List.map_set]
  refine List.ext_getElem? fun i => ?_
  rw [List.getElem?_set]
  have hk := (List.getElem?_eq_some_iff.1 h).1
  split
  · rename_i e
    subst e
    rw [if_pos (by simpa using hk), List.getElem?_map, h, hp]
    rfl
  · rfl
/-- A twin is put back, turned. -/
theorem desk_in {D n k : Nat} {va vb vm : Value} {Q : Pool} {T : List Tq} {M : List Mk} {t t' : Tq} {Z : List Comp} {w : World} (h : T[k]? = some t) (hg : t'.g = t.g) (hp : t'.R = t.R) (hA : All (poolC Q :: blkC t'.g (bookL n t'.lv t'.ps) 70 :: (refL t'.R t'.v t'.rs ++ (hdL D va vb vm (pA T) (pB T) M ++ (OT n T k ++ Z)))) w) : All (deskL D n va vb vm Q (T.set k t') M ++ Z) w := by
  refine hA.perm ?_
  have := ((flat_mid (n := n) h (hdL D va vb vm (pA T) (pB T) M ++ [poolC Q]) Z t').1).trans (out_perm n _ Q t' _)
  unfold deskL
  rw [pA_set h hg, pB_set h hp]
  simpa [List.append_assoc] using this.symm
theorem setT_same {T : List Tq} {i : Nat} {r : Tq} (h : T[i]? = some r) : T.set i r = T := by
  have := (List.getElem?_eq_some_iff.1 h).2
  rw [← this]; simp
theorem DF.set {Q Q' : Pool} {n i i' k : Nat} {T : List Tq} {M M' : List Mk} (h : DF Q n T M i) (hs : ∀ x ∈ Q, x ∈ Q') {t' : Tq} (hk : t'.ok Q' n) (hf : M'.length ≤ i') (hm : ∀ x ∈ M', x.m ≤ 2313) : DF Q' n (T.set k t') M' i' := by
  refine ⟨fun t ht => ?_, by rw [List.length_set]; exact h.one, by rw [List.length_set]; exact h.four, hf, hm⟩
  rcases List.mem_or_eq_of_mem_set ht with ht | rfl
  · exact (h.ok t ht).mono hs
  · exact hk
/-- What an act leaves. -/
def DeskI (D n : Nat) (N i : Nat) (cs : List Comp) (w : World) : Prop := ∃ va vb vm Q T M, N ≤ T.length ∧ DF Q n T M i ∧ All (deskL D n va vb vm Q T M ++ cs) w
theorem DeskI.mk {D n k i i' : Nat} {va vb vm : Value} {Q Q' : Pool} {T : List Tq} {M M' : List Mk} {t t' : Tq} {cs : List Comp} {w : World} (hT : T[k]? = some t) (hF : DF Q n T M i) (hs : ∀ x ∈ Q, x ∈ Q') (hg : t'.g = t.g) (hp : t'.R = t.R) (hk : t'.ok Q' n) (hf : M'.length ≤ i') (hm : ∀ x ∈ M', x.m ≤ 2313) (hA : All (poolC Q' :: blkC t'.g (bookL n t'.lv t'.ps) 70 :: (refL t'.R t'.v t'.rs ++ (hdL D va vb vm (pA T) (pB T) M' ++ (OT n T k ++ cs)))) w) : DeskI D n T.length i' cs w :=
  ⟨va, vb, vm, Q', T.set k t', M', by rw [List.length_set]; exact Nat.le_refl _, hF.set hs hk hf hm, desk_in hT hg hp hA⟩
theorem DeskI.same {D n k i i' : Nat} {va vb vm : Value} {Q : Pool} {T : List Tq} {M M' : List Mk} {t : Tq} {cs : List Comp} {w : World} (hT : T[k]? = some t) (hF : DF Q n T M i) (hf : M'.length ≤ i') (hm : ∀ x ∈ M', x.m ≤ 2313) (hA : All (poolC Q :: blkC t.g (bookL n t.lv t.ps) 70 :: (refL t.R t.v t.rs ++ (hdL D va vb vm (pA T) (pB T) M' ++ (OT n T k ++ cs)))) w) : DeskI D n T.length i' cs w :=
  DeskI.mk (t' := t) hT hF (fun _ h => h) rfl rfl (hF.ok t (List.mem_of_getElem? hT)) hf hm hA
theorem DeskI.drop {D n N i : Nat} {c : Comp} {cs : List Comp} {w : World} (h : DeskI D n N i (c :: cs) w) : DeskI D n N i cs w := by
  obtain ⟨va, vb, vm, Q, T, M, h1, h2, h3⟩ := h
  exact ⟨va, vb, vm, Q, T, M, h1, h2, h3.mid⟩
theorem DF.more {Q : Pool} {n i i' : Nat} {T : List Tq} {M : List Mk} (h : DF Q n T M i) (hi : i ≤ i') : DF Q n T M i' := ⟨h.ok, h.one, h.four, Nat.le_trans h.few hi, h.short⟩
/-- The desk, as it is read. -/
structure DRead (w : World) (D N k : Nat) (ra ca rb cb : Nat) (g p : Nat) : Prop where
  c0 : w.cell? ⟨D, 0, none⟩ = some (.slice (some ⟨ra, 0, none⟩) N ca)
  c1 : w.cell? ⟨D, 1, none⟩ = some (.slice (some ⟨rb, 0, none⟩) N cb)
  pa : w.cell? ⟨ra, k, none⟩ = some (.pointer (some ⟨g, 0, none⟩))
  pb : w.cell? ⟨rb, k, none⟩ = some (.pointer (some ⟨p, 0, none⟩))
theorem desk_reads {D n k : Nat} {va vb vm : Value} {Q : Pool} {T : List Tq} {M : List Mk} {t : Tq} {Z : List Comp} {w : World} (h : T[k]? = some t) (hA : All (deskL D n va vb vm Q T M ++ Z) w) : ∃ ra ca rb cb, va = .slice (some ⟨ra, 0, none⟩) T.length ca ∧ vb = .slice (some ⟨rb, 0, none⟩) T.length cb ∧ DRead w D T.length k ra ca rb cb t.g t.R := by
  have hD : w.heap[D]? = some (.cells [va, vb, vm].toArray 35 (0, 0)) := hA.blk (by simp [deskL, hdL])
  have hRA : w.ownsRow 0 23 1 va (pA T).length (pA T) := (hA.mem (c := ownC 23 va (pA T)) (by simp [deskL, hdL])).2.1
  have hRB : w.ownsRow 0 27 1 vb (pB T).length (pB T) := (hA.mem (c := ownC 27 vb (pB T)) (by simp [deskL, hdL])).2.1
  obtain ⟨aa, ca, rfl⟩ := owns_form hRA
  obtain ⟨ab, cb, rfl⟩ := owns_form hRB
  obtain ⟨ra, rfl, pa, _⟩ := owns_at hRA (k := k) (u := .pointer (some ⟨t.g, 0, none⟩)) (by simp [pA, h])
  obtain ⟨rb, rfl, pb, _⟩ := owns_at hRB (k := k) (u := .pointer (some ⟨t.R, 0, none⟩)) (by simp [pB, h])
  rw [pA_len] at hD ⊢
  rw [pB_len] at hD ⊢
  exact ⟨ra, ca, rb, cb, rfl, rfl, by rw [cell_at hD]; rfl, by rw [cell_at hD]; rfl, pa, pb⟩
theorem hd_reads {D k N ra ca rb cb : Nat} {vm : Value} {T : List Tq} {M : List Mk} {t : Tq} {X Z : List Comp} {w : World} (h : T[k]? = some t) (hA : All (X ++ (hdL D (.slice (some ⟨ra, 0, none⟩) N ca) (.slice (some ⟨rb, 0, none⟩) N cb) vm (pA T) (pB T) M ++ Z)) w) : DRead w D N k ra ca rb cb t.g t.R := by
  have hD : w.heap[D]? = some (.cells [.slice (some ⟨ra, 0, none⟩) N ca, .slice (some ⟨rb, 0, none⟩) N cb, vm].toArray 35 (0, 0)) := hA.blk (by simp [hdL])
  have hRA : w.ownsRow 0 23 1 (.slice (some ⟨ra, 0, none⟩) N ca) (pA T).length (pA T) := (hA.mem (c := ownC 23 (.slice (some ⟨ra, 0, none⟩) N ca) (pA T)) (by simp [hdL])).2.1
  have hRB : w.ownsRow 0 27 1 (.slice (some ⟨rb, 0, none⟩) N cb) (pB T).length (pB T) := (hA.mem (c := ownC 27 (.slice (some ⟨rb, 0, none⟩) N cb) (pB T)) (by simp [hdL])).2.1
  obtain ⟨_, e1, pa, _⟩ := owns_at hRA (k := k) (u := .pointer (some ⟨t.g, 0, none⟩)) (by simp [pA, h])
  obtain ⟨_, e2, pb, _⟩ := owns_at hRB (k := k) (u := .pointer (some ⟨t.R, 0, none⟩)) (by simp [pB, h])
  cases e1
  cases e2
  exact ⟨by rw [cell_at hD]; rfl, by rw [cell_at hD]; rfl, pa, pb⟩
theorem desk_rd {D n k N ra ca rb cb : Nat} {vm : Value} {Q : Pool} {T : List Tq} {M : List Mk} {t : Tq} {Z : List Comp} {w : World} (h : T[k]? = some t) (hA : All (deskL D n (.slice (some ⟨ra, 0, none⟩) N ca) (.slice (some ⟨rb, 0, none⟩) N cb) vm Q T M ++ Z) w) : DRead w D N k ra ca rb cb t.g t.R := by
  unfold deskL at hA
  rw [List.append_assoc] at hA
  exact hd_reads (X := []) h hA

/-- Which of n things. -/
def amN (i : Int) (n : Nat) : Nat := if i.tmod n < 0 then (i.tmod n + n).toNat else (i.tmod n).toNat
theorem amN_lt (i : Int) {n : Nat} (h1 : 1 ≤ n) : amN i n < n := by
  have hlt : i.tmod n < n := Int.tmod_lt_of_pos _ (by omega)
  unfold amN
  split <;> omega
theorem among_is {w : World} (i : Int) (n : Nat) (h1 : 1 ≤ n) (h2 : n ≤ 4611686018427387904) : Calls Try.prog 25 #[.int .i64 i, .int .i64 (n : Int)] w fun e w' => e = .returned (.int .i64 (amN i n : Nat)) ∧ w' = w := by
  have hlt : i.tmod n < n := Int.tmod_lt_of_pos _ (by omega)
  have hgt : -(n : Int) < i.tmod n := by
    have := Int.lt_tmod_of_pos i (b := (n : Int)) (by omega)
    omega
  by_cases h0 : i.tmod n < 0
  · have hw : wrap64 (i.tmod n + n) = i.tmod n + n := by unfold wrap64; omega
    go_enter Try.func25, Try.ntmps25
    go_wp2
    go_ret
    exact ⟨by unfold amN; rw [if_pos h0, Int.toNat_of_nonneg (by omega)]; rfl, rfl⟩
  · go_enter Try.func25, Try.ntmps25
    go_wp2
    go_ret
    exact ⟨by unfold amN; rw [if_neg (by omega), Int.toNat_of_nonneg (by omega)]; rfl, rfl⟩

/-- Bytes are handed out, beside the desk's head. -/
theorem takes_hd {D : Nat} {va vb vm v : Value} {ga gb : List Value} {l : List Value} {M : List Mk} {X Z : List Comp} {w : World} (hA : All (ownC 5 v l :: (X ++ (hdL D va vb vm ga gb M ++ Z))) w) (hl : l.length ≤ 2304) (hM : M.length ≤ 1099511627776) (hm : ∀ x ∈ M, x.m ≤ 2313) : Calls Try.prog 48 #[.pointer (some ⟨D, 0, none⟩), v] w fun e w' => e = .returned (.tuple #[]) ∧ ∃ x vm', (∀ y ∈ M ++ [x], y.m ≤ 2313) ∧ All (X ++ (hdL D va vb vm' ga gb (M ++ [x]) ++ Z)) w' := by
  have h1 : All (ownC 5 v l :: blkC D [va, vb, vm] 35 :: markC vm M :: (X ++ ([ownC 23 va ga, ownC 27 vb gb] ++ (M.map Mk.comp ++ Z)))) w := by
    refine hA.perm (.cons _ ?_)
    have := perm_by 6 [X, [blkC D [va, vb, vm] 35], [ownC 23 va ga, ownC 27 vb gb], [markC vm M], M.map Mk.comp, Z] [1, 3, 0, 2, 4, 5] rfl (by decide)
    simpa [List.getD, hdL] using this
  refine (takes_any h1 (by omega) hM).mono ?_
  rintro e w' ⟨rfl, x, vm', hx, A⟩
  refine ⟨rfl, x, vm', fun y hy => ?_, A.perm ?_⟩
  · rcases List.mem_append.1 hy with hy | hy
    · exact hm y hy
    · rw [List.mem_singleton.1 hy]; omega
  · have := perm_by 7 [[Mk.comp x], [blkC D [va, vb, vm'] 35], [markC vm' (M ++ [x])], X, [ownC 23 va ga, ownC 27 vb gb], M.map Mk.comp, Z] [3, 1, 4, 2, 5, 0, 6] rfl (by decide)
    simpa [List.getD, hdL] using this
theorem rowC_own {v : Value} {l : List UInt8} : rowC 5 1 v l.length (cellsB l) = ownC 5 v (cellsB l) := by
  unfold rowC ownC
  rw [show (cellsB l).length = l.length by simp [cellsB]]
end Go.Proofs.Ytaomhahmpbfjhaa

namespace Go.Proofs.Ytaomhahmpbfjhaa
open Go.RowKit
set_option linter.unusedVariables false

set_option maxRecDepth 1000000 in
/-- Get, where there is no such sheet. -/
theorem Get_bad {w : World} {g n lv : Nat} {ps : List Nat} {P : Pool} {cs : List Comp} {num : Int} (hA : All (poolC P :: blkC g (bookL n lv ps) 70 :: cs) w) (hi : ¬ (0 ≤ num ∧ num < n)) :
    Calls Try.prog 21 #[.pointer (some ⟨g, 0, none⟩), .int .i64 num] w fun e w' => e = .returned (.tuple #[.slice none 0 0, .int .i64 0, .int .i64 61]) ∧ w' = w := by
  have hb : w.heap[g]? = some (.cells (bookL n lv ps).toArray 70 (0, 0)) := hA.tail.1.2.1
  have c0 : w.cell? ⟨g, 0, none⟩ = some (.int .i64 (n : Int)) := by rw [cell_at hb]; rfl
  have H1 := hid (has_any num c0)
  rw [decide_eq_false hi] at H1
  clear hA hb
  go_enter Try.func21, Try.ntmps21
  go_wp2_with (go_at_call 33; refine H1.out.mono ?_; rintro e w' ⟨rfl, rfl⟩)
  go_ret3
  exact ⟨rfl, rfl⟩
end Go.Proofs.Ytaomhahmpbfjhaa

namespace Go.Proofs.Ytaomhahmpbfjhaa
open Go.RowKit
set_option linter.unusedVariables false

theorem flatX_at {l : List Xs} {i : Nat} {x : Xs} (h : l[i]? = some x) {j : Nat} (hj : j < 3) : (flatX l)[i * 3 + j]? = x.cells[j]? := by
  induction l generalizing i with
  | nil => simp at h
  | cons y l ih =>
    rw [flatX, List.flatMap_cons]
    cases i with
    | zero =>
      simp only [List.getElem?_cons_zero, Option.some.injEq] at h
      subst h
      rw [Nat.zero_mul, Nat.zero_add, List.getElem?_append_left (by simpa [Xs.cells] using hj)]
    | succ i =>
      rw [List.getElem?_append_right (by simp [Xs.cells]; omega)]
      have := ih (i := i) (by simpa using h)
      rw [← this]
      simp only [Xs.cells, List.length_cons, List.length_nil, flatX]
      congr 1
      omega
theorem rowX_at {w : World} {base : Nat} {ao : Option Addr} {m c : Nat} {rs : List Xs} (h : w.ownsRow base 51 3 (.slice ao m c) rs.length (flatX rs)) {i : Nat} {x : Xs} (hx : rs[i]? = some x) : ∃ g, ao = some ⟨g, 0, none⟩ ∧ g < w.heap.size ∧ w.cell? ⟨g, i * 3, none⟩ = some (.int .i64 (x.num : Int)) ∧ w.cell? ⟨g, i * 3 + 1, none⟩ = some (.int .i64 (x.at_ : Int)) ∧ w.cell? ⟨g, i * 3 + 2, none⟩ = some (.slice x.ao x.len x.cap) := by
  have hi := (List.getElem?_eq_some_iff.1 hx).1
  rcases h.2 with ⟨_, e⟩ | ⟨g, cap, cur, e, _, h2, h3, h4, h5, h6⟩
  · omega
  · simp only [Value.slice.injEq] at e
    obtain ⟨rfl, rfl, rfl⟩ := e
    have key : ∀ j, j < 3 → cur[i * 3 + j]? = x.cells[j]? := fun j hj => by
      have e1 : (cur.toList.take (rs.length * 3))[i * 3 + j]? = (flatX rs)[i * 3 + j]? := by rw [h6]
      rw [List.getElem?_take, if_pos (by omega), Array.getElem?_toList, flatX_at hx hj] at e1
      exact e1
    refine ⟨g, rfl, (Array.getElem?_eq_some_iff.1 h2).1, ?_, ?_, ?_⟩
    · rw [cell_at h2]; exact key 0 (by omega)
    · rw [cell_at h2]; exact key 1 (by omega)
    · rw [cell_at h2]; exact key 2 (by omega)
theorem Xs.len_of {w : World} {x : Xs} (h : w.ownsRow 0 5 1 x.v x.bs.length (cellsB x.bs)) : x.len = x.bs.length := by
  obtain ⟨a, c, e⟩ := owns_form h
  simp only [Xs.v, Value.slice.injEq] at e
  exact e.2.1
/-- The document's book, as it is read. -/
theorem ref_at {R n j : Nat} {v : Value} {rs : List Xs} {S : Sheets} {X Z : List Comp} {w : World} (hA : All (X ++ (refL R v rs ++ Z)) w) (hR : RS n rs S) (hj : j < n) : ∃ gr rc x, v = .slice (some ⟨gr, 0, none⟩) n rc ∧ rs[j]? = some x ∧ x.num = j ∧ (x.at_, x.bs) = S j ∧ R < w.heap.size ∧ gr < w.heap.size ∧ w.cell? ⟨R, 0, none⟩ = some (.slice (some ⟨gr, 0, none⟩) n rc) ∧ w.cell? ⟨gr, j * 3, none⟩ = some (.int .i64 (j : Int)) ∧ w.cell? ⟨gr, j * 3 + 1, none⟩ = some (.int .i64 ((S j).1 : Int)) ∧ w.cell? ⟨gr, j * 3 + 2, none⟩ = some (.slice x.ao (S j).2.length x.cap) ∧ datC x ∈ (X ++ (refL R v rs ++ Z)) ∧ Reads w (.slice x.ao (S j).2.length x.cap) (S j).2 := by
  have hb : w.heap[R]? = some (.cells [v].toArray 72 (0, 0)) := hA.blk (by simp [refL])
  have hrow : w.ownsRow 0 51 3 v rs.length (flatX rs) := (hA.mem (c := rowC 51 3 v rs.length (flatX rs)) (by simp [refL])).2.1
  obtain ⟨ro, rc, rfl⟩ := owns_form hrow
  obtain ⟨x, hx⟩ : ∃ x, rs[j]? = some x := ⟨_, List.getElem?_eq_getElem (by rw [hR.len]; exact hj)⟩
  obtain ⟨e1, e2⟩ := hR.each j x hx
  obtain ⟨gr, rfl, lg, y0, y1, y2⟩ := rowX_at hrow hx
  have hm : datC x ∈ (X ++ (refL R (.slice (some ⟨gr, 0, none⟩) rs.length rc) rs ++ Z)) := by
    have := List.mem_map_of_mem (f := datC) (List.mem_of_getElem? hx)
    simp [refL, this]
  have hd : w.ownsRow 0 5 1 x.v x.bs.length (cellsB x.bs) := (hA.mem hm).2.1
  have el := Xs.len_of hd
  have eS1 : x.at_ = (S j).1 := by rw [← e2]
  have eS2 : x.bs = (S j).2 := by rw [← e2]
  refine ⟨gr, rc, x, by rw [hR.len], hx, e1, e2, (Array.getElem?_eq_some_iff.1 hb).1, lg, by rw [cell_at hb, ← hR.len]; rfl, by rw [y0, e1], by rw [y1, eS1], by rw [y2, el, eS2], hm, ?_⟩
  have := Reads.of_owns hd
  rw [eS2, Xs.v, el, eS2] at this
  exact this

set_option maxHeartbeats 1600000 in
set_option maxRecDepth 1000000 in
theorem get_any {D n k i : Nat} {va vb vm : Value} {Q : Pool} {T : List Tq} {M : List Mk} {cs : List Comp} {w : World} (num : Int) (hA : All (deskL D n va vb vm Q T M ++ cs) w) (hF : DF Q n T M i) (hk : k < T.length) (hi : i ≤ 1099511627776) : Calls Try.prog 27 #[.pointer (some ⟨D, 0, none⟩), .int .i64 (k : Int), .int .i64 num] w fun e w' => e = .returned (.bool true) ∧ DeskI D n T.length (i + 1) cs w' := by
  obtain ⟨t, hT⟩ : ∃ t, Hid (T[k]? = some t) := ⟨_, hid (List.getElem?_eq_getElem hk)⟩
  have hok := hid (hF.ok t (List.mem_of_getElem? hT.out))
  obtain ⟨ra, ca, rb, cb, rfl, rfl, RD⟩ := desk_reads hT.out hA
  obtain ⟨c0, c1, pa, pb⟩ := RD
  have j1 : (k : Int) < (T.length : Int) := by omega
  have HF := hid hF
  have A0 := hid (desk_out hT.out hA)
  have hM : M.length ≤ 1099511627776 := Nat.le_trans hF.few hi
  have hfew := hF.few
  have hcap := hid hok.out.bk.cap
  clear hA hF
  by_cases hn : 0 ≤ num ∧ num < n
  · obtain ⟨j, rfl⟩ : ∃ j : Nat, num = j := ⟨num.toNat, by omega⟩
    have hj : j < n := by omega
    have C21 := hid (Get_all A0.out hok.out.bk hj)
    have n1 : (j : Int) ≥ 0 := by omega
    have n2 : (j : Int) < (n : Int) := by omega
    clear hn
    go_enter Try.func27, Try.ntmps27
    go_wp2_with fail
    refine C21.out.mono ?_
    rintro e w1 ⟨a, c, rfl, A1⟩
    clear C21 A0 c0 c1 pa pb
    obtain ⟨c0, c1, pa, pb⟩ := hd_reads (X := _ :: _ :: _ :: refL t.R t.v t.rs) hT.out A1
    obtain ⟨gr, rc, x, hv, hx, e1, e2, lR, lg, r0, y0, y1, y2, hm, hrd⟩ := ref_at (X := [_, _, _]) A1 hok.out.rs hj
    have lD := World.block_lt_of_cell? _ _ c0
    have lb := World.block_lt_of_cell? _ _ pb
    simp only at lD lb
    have b1 := (hcap.out j).1
    have b2 := (hcap.out j).2
    have rd1 := Reads.of_owns (show w1.ownsRow 0 5 1 (.slice a (t.S j).2.length c) (t.S j).2.length (cellsB (t.S j).2) from A1.1.2.1)
    have HR1 := hid hrd
    have HR2 := hid rd1
    have A1 := hid A1
    have HM := hid hm
    clear hv hx e1 e2 hm hrd rd1
    have A3 := hid (A1.out.addBlk [.int .i64 (j : Int), .int .i64 ((t.S j).1 : Int), .slice x.ao (t.S j).2.length x.cap] 51)
    go_wp2_with fail
    refine (Same_any (l := (t.S j).2) (m := (t.S j).2) (Reads.of_owns (A3.out.tail.1.2.1)) (HR1.out.below (ba w1 _)) (by omega) (by omega)).mono ?_
    rintro e w2 ⟨rfl, q, hw2⟩
    rw [decide_eq_true rfl]
    have A4 := hid (show All _ w2 from hw2 ▸ A3.out.drewN q)
    clear A3 hw2 c0 c1 pa pb r0 y0 y1 y2 lD lb lR lg
    go_wp2_with fail
    refine (takes_hd (l := cellsB (t.S j).2) (X := poolC Q :: blkC t.g (bookL n t.lv t.ps) 70 :: refL t.R t.v t.rs) (by have := A4.out.tail; rw [rowC_own] at this; exact this) (by simpa [cellsB] using b2) hM HF.out.short).mono ?_
    rintro e w3 ⟨rfl, y, vm', hy, A5⟩
    have A5 := hid A5
    clear A4
    go_wp2
    go_ret
    exact ⟨rfl, DeskI.same hT.out HF.out (by simp; omega) hy A5.out⟩
  · have C21 := hid (Get_bad A0.out hn)
    obtain ⟨gr, rc, x, hv, hx, e1, e2, lR, lg, r0, y0, y1, y2, hm, hrd⟩ := ref_at (X := [_, _]) A0.out hok.out.rs (show 0 < n from hok.out.bk.n1)
    have lD := World.block_lt_of_cell? _ _ c0
    have lb := World.block_lt_of_cell? _ _ pb
    simp only at lD lb
    have A3 := hid (A0.out.addBlk [.int .i64 0, .int .i64 0, .slice none 0 0] 51)
    clear hv hx e1 e2 hm hrd y0 y1 y2
    have key : ∀ b : Bool, Hid (b = decide (num ≥ 0)) → Hid (b = true → ¬ num < (n : Int)) → Calls Try.prog 27 #[.pointer (some ⟨D, 0, none⟩), .int .i64 (k : Int), .int .i64 num] w fun e w' => e = .returned (.bool true) ∧ DeskI D n T.length (i + 1) cs w' := by
      intro b hb1 hb2
      cases b
      · have n1 : ¬ num ≥ 0 := of_decide_eq_false hb1.out.symm
        clear hb1 hb2 hn
        go_enter Try.func27, Try.ntmps27
        go_wp2_with fail
        refine C21.out.mono ?_
        rintro e w1 ⟨rfl, rfl⟩
        go_wp2_with fail
        refine (Same_any (l := []) (m := []) (Reads.nil _) (Reads.nil _) (by simp) (by simp)).mono ?_
        rintro e w2 ⟨rfl, q, hw2⟩
        rw [decide_eq_true rfl]
        have A4 := hid (show All _ w2 from hw2 ▸ A3.out.drewN q)
        clear A3 hw2 c0 c1 pa pb r0 lD lb lR lg C21 A0
        go_wp2_with fail
        refine (takes_hd (l := []) (X := poolC Q :: blkC t.g (bookL n t.lv t.ps) 70 :: refL t.R t.v t.rs) (A4.out.tail.addRow0 (e := 5) (size := 1)) (by simp) hM HF.out.short).mono ?_
        rintro e w3 ⟨rfl, y, vm', hy, A5⟩
        have A5 := hid A5
        clear A4
        go_wp2
        go_ret
        exact ⟨rfl, DeskI.same hT.out HF.out (by simp; omega) hy A5.out⟩
      · have n1 : num ≥ 0 := of_decide_eq_true hb1.out.symm
        have n2 := hb2.out rfl
        clear hb1 hb2 hn
        go_enter Try.func27, Try.ntmps27
        go_wp2_with fail
        refine C21.out.mono ?_
        rintro e w1 ⟨rfl, rfl⟩
        go_wp2_with fail
        refine (Same_any (l := []) (m := []) (Reads.nil _) (Reads.nil _) (by simp) (by simp)).mono ?_
        rintro e w2 ⟨rfl, q, hw2⟩
        rw [decide_eq_true rfl]
        have A4 := hid (show All _ w2 from hw2 ▸ A3.out.drewN q)
        clear A3 hw2 c0 c1 pa pb r0 lD lb lR lg C21 A0
        go_wp2_with fail
        refine (takes_hd (l := []) (X := poolC Q :: blkC t.g (bookL n t.lv t.ps) 70 :: refL t.R t.v t.rs) (A4.out.tail.addRow0 (e := 5) (size := 1)) (by simp) hM HF.out.short).mono ?_
        rintro e w3 ⟨rfl, y, vm', hy, A5⟩
        have A5 := hid A5
        clear A4
        go_wp2
        go_ret
        exact ⟨rfl, DeskI.same hT.out HF.out (by simp; omega) hy A5.out⟩
    exact key _ (hid rfl) (hid (fun h => by have := of_decide_eq_true h; omega))
end Go.Proofs.Ytaomhahmpbfjhaa
