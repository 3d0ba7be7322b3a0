import Derived.Test.YthjoppgomopkfaaStand
import Derived.Test.YthjoppgomopkfaaAlike
namespace Go.Proofs.Ythjoppgomopkfaa
open Go.RowKit
set_option linter.unusedVariables false

theorem All.sublist {cs ds : List Comp} {w : World} (h : All cs w) (hs : ds.Sublist cs) : All ds w := by
  induction hs with
  | slnil => exact h
  | cons c _ ih => exact ih h.tail
  | cons_cons c hs ih => exact ⟨h.1, fun d hd => h.2.1 d (hs.subset hd), ih h.2.2⟩

theorem All.flip {X Y Z : List Comp} {w : World} (h : All (X ++ (Y ++ Z)) w) : All (Y ++ (X ++ Z)) w := h.perm (List.perm_append_comm_assoc X Y Z)

/-- Which of n things. -/
def amN (i : Int) (n : Nat) : Nat := if i.tmod n < 0 then (i.tmod n + n).toNat else (i.tmod n).toNat
theorem amN_lt (i : Int) {n : Nat} (h1 : 1 ≤ n) : amN i n < n := by
  have hlt : i.tmod n < n := Int.tmod_lt_of_pos _ (by omega)
  unfold amN
  split <;> omega
theorem among_is {w : World} (i : Int) (n : Nat) (h1 : 1 ≤ n) (h2 : n ≤ 4611686018427387904) : Calls Try.prog 8 #[.int .i64 i, .int .i64 (n : Int)] w fun e w' => e = .returned (.int .i64 (amN i n : Nat)) ∧ w' = w := by
  have hlt : i.tmod n < n := Int.tmod_lt_of_pos _ (by omega)
  have hgt : -(n : Int) < i.tmod n := by
    have := Int.lt_tmod_of_pos i (b := (n : Int)) (by omega)
    omega
  by_cases h0 : i.tmod n < 0
  · have hw : wrap64 (i.tmod n + n) = i.tmod n + n := by unfold wrap64; omega
    go_enter Try.func8, Try.ntmps8
    go_wp2
    go_ret
    exact ⟨by unfold amN; rw [if_pos h0, Int.toNat_of_nonneg (by omega)]; rfl, rfl⟩
  · go_enter Try.func8, Try.ntmps8
    go_wp2
    go_ret
    exact ⟨by unfold amN; rw [if_neg (by omega), Int.toNat_of_nonneg (by omega)]; rfl, rfl⟩

/-- A log of the program, and the document's beside it. -/
structure Tw where
  g : Nat
  h : Nat
  p : Nat
  b : Nat
  v : Value
  L : List Ent
  ps : List Ent
def Tw.parts (n : Nat) (t : Tw) : List Comp := logP t.g t.h t.b (t.b + t.L.length) n t.ps ++ refP t.p n t.b t.v t.L
def Tw.ok (n : Nat) (t : Tw) : Prop := LogOk t.b n t.L t.ps
def pA (T : List Tw) : List Value := T.map fun t => .pointer (some ⟨t.g, 0, none⟩)
def pB (T : List Tw) : List Value := T.map fun t => .pointer (some ⟨t.p, 0, none⟩)
theorem pA_len (T : List Tw) : (pA T).length = T.length := by simp [pA]
theorem pB_len (T : List Tw) : (pB T).length = T.length := by simp [pB]
/-- The desk's own: its block, its rows, what was handed out. -/
def hdL (D : Nat) (va vb vm : Value) (ga gb : List Value) (M : List Mk) : List Comp := [blkC D [va, vb, vm] 35, ownC 23 va ga, ownC 27 vb gb, markC vm M] ++ M.map Mk.comp
def deskL (n D : Nat) (va vb vm : Value) (T : List Tw) (M : List Mk) : List Comp := hdL D va vb vm (pA T) (pB T) M ++ T.flatMap (Tw.parts n)
def OT (n : Nat) (T : List Tw) (k : Nat) : List Comp := (T.take k ++ T.drop (k + 1)).flatMap (Tw.parts n)
structure DF (n : Nat) (T : List Tw) (M : List Mk) (i : Nat) : Prop where
  ok : ∀ t ∈ T, t.ok n
  one : 1 ≤ T.length
  four : T.length ≤ 4
  few : M.length ≤ i
  short : ∀ x ∈ M, x.m ≤ 69

theorem flat_mid {n : Nat} {T : List Tw} {i : Nat} {r : Tw} (h : T[i]? = some r) (X Z : List Comp) (r' : Tw) :
    (X ++ ((T.set i r').flatMap (Tw.parts n) ++ Z)).Perm (r'.parts n ++ (X ++ (OT n T i ++ Z))) ∧ (X ++ (T.flatMap (Tw.parts n) ++ Z)).Perm (r.parts n ++ (X ++ (OT n T i ++ Z))) := by
  have hi := (List.getElem?_eq_some_iff.1 h).1
  have e1 : T.set i r' = T.take i ++ r' :: T.drop (i + 1) := List.set_eq_take_append_cons_drop ▸ (by simp [hi])
  have e2 : T = T.take i ++ r :: T.drop (i + 1) := by
    have := (List.getElem?_eq_some_iff.1 h).2
    rw [← this]
    simp
  have key : ∀ y : Tw, (X ++ ((T.take i ++ y :: T.drop (i + 1)).flatMap (Tw.parts n) ++ Z)).Perm (y.parts n ++ (X ++ (OT n T i ++ Z))) := fun y => by
    have := List.perm_append_comm_assoc (X ++ (T.take i).flatMap (Tw.parts n)) (y.parts n) ((T.drop (i + 1)).flatMap (Tw.parts n) ++ Z)
    simpa [List.append_assoc, OT] using this
  refine ⟨by rw [e1]; exact key r', ?_⟩
  have := key r
  rw [← e2] at this
  exact this

/-- One of the twins is taken out. -/
theorem desk_out {n D k : Nat} {va vb vm : Value} {T : List Tw} {M : List Mk} {t : Tw} {Z : List Comp} {w : World} (h : T[k]? = some t) (hA : All (deskL n D va vb vm T M ++ Z) w) : All (logP t.g t.h t.b (t.b + t.L.length) n t.ps ++ (refP t.p n t.b t.v t.L ++ (hdL D va vb vm (pA T) (pB T) M ++ (OT n T k ++ Z)))) w := by
  refine hA.perm ?_
  have := (flat_mid (n := n) h (hdL D va vb vm (pA T) (pB T) M) Z t).2
  simpa [deskL, Tw.parts, List.append_assoc] using this
theorem pA_set {T : List Tw} {k : Nat} {t t' : Tw} (h : T[k]? = some t) (hg : t'.g = t.g) : pA (T.set k t') = pA T := by
  unfold pA
  rw [List.map_set]
  refine List.ext_getElem? fun i => ?_
  rw [List.getElem?_set]
  have hk := (List.getElem?_eq_some_iff.1 h).1
  split
  · rename_i e
    subst e
    rw [if_pos (by simpa using hk), List.getElem?_map, h, hg]
    rfl
  · rfl
theorem pB_set {T : List Tw} {k : Nat} {t t' : Tw} (h : T[k]? = some t) (hp : t'.p = t.p) : pB (T.set k t') = pB T := by
  unfold pB
  rw [List.map_set]
  refine List.ext_getElem? fun i => ?_
  rw [List.getElem?_set]
  have hk := (List.getElem?_eq_some_iff.1 h).1
  split
  · rename_i e
    subst e
    rw [if_pos (by simpa using hk), List.getElem?_map, h, hp]
    rfl
  · rfl
/-- A twin is put back, turned. -/
theorem desk_in {n D k : Nat} {va vb vm : Value} {T : List Tw} {M : List Mk} {t t' : Tw} {Z : List Comp} {w : World} (h : T[k]? = some t) (hg : t'.g = t.g) (hp : t'.p = t.p) (hA : All (logP t'.g t'.h t'.b (t'.b + t'.L.length) n t'.ps ++ (refP t'.p n t'.b t'.v t'.L ++ (hdL D va vb vm (pA T) (pB T) M ++ (OT n T k ++ Z)))) w) : All (deskL n D va vb vm (T.set k t') M ++ Z) w := by
  refine hA.perm ?_
  have := (flat_mid (n := n) h (hdL D va vb vm (pA T) (pB T) M) Z t').1
  unfold deskL
  rw [pA_set h hg, pB_set h hp]
  simpa [Tw.parts, List.append_assoc] using this.symm
theorem setT_same {T : List Tw} {i : Nat} {r : Tw} (h : T[i]? = some r) : T.set i r = T := by
  have := (List.getElem?_eq_some_iff.1 h).2
  rw [← this]; simp
theorem desk_back {n D k : Nat} {va vb vm : Value} {T : List Tw} {M : List Mk} {t : Tw} {Z : List Comp} {w : World} (h : T[k]? = some t) (hA : All (logP t.g t.h t.b (t.b + t.L.length) n t.ps ++ (refP t.p n t.b t.v t.L ++ (hdL D va vb vm (pA T) (pB T) M ++ (OT n T k ++ Z)))) w) : All (deskL n D va vb vm T M ++ Z) w := by
  have := desk_in (t' := t) h rfl rfl hA
  rwa [setT_same h] at this
theorem DF.set {n i k : Nat} {T : List Tw} {M : List Mk} (h : DF n T M i) {t' : Tw} (hk : t'.ok n) : DF n (T.set k t') M (i + 1) := by
  refine ⟨fun t ht => ?_, by rw [List.length_set]; exact h.one, by rw [List.length_set]; exact h.four, Nat.le_succ_of_le h.few, h.short⟩
  rcases List.mem_or_eq_of_mem_set ht with ht | rfl
  · exact h.ok t ht
  · exact hk
theorem DF.next {n i : Nat} {T : List Tw} {M : List Mk} (h : DF n T M i) : DF n T M (i + 1) := ⟨h.ok, h.one, h.four, Nat.le_succ_of_le h.few, h.short⟩
/-- What an act leaves. -/
def DeskI (n D : Nat) (N i : Nat) (cs : List Comp) (w : World) : Prop := ∃ va vb vm T M, N ≤ T.length ∧ DF n T M i ∧ All (deskL n D va vb vm T M ++ cs) w
theorem DeskI.mk {n D k i : Nat} {va vb vm : Value} {T : List Tw} {M : List Mk} {t t' : Tw} {c : Comp} {cs : List Comp} {w : World} (hT : T[k]? = some t) (hF : DF n T M i) (hg : t'.g = t.g) (hp : t'.p = t.p) (hk : t'.ok n) (hA : All (logP t'.g t'.h t'.b (t'.b + t'.L.length) n t'.ps ++ (refP t'.p n t'.b t'.v t'.L ++ (hdL D va vb vm (pA T) (pB T) M ++ (OT n T k ++ (c :: cs))))) w) : DeskI n D T.length (i + 1) cs w :=
  ⟨va, vb, vm, T.set k t', M, by rw [List.length_set]; exact Nat.le_refl _, hF.set hk, (desk_in hT hg hp hA).mid⟩
theorem DeskI.same {n D k i : Nat} {va vb vm : Value} {T : List Tw} {M : List Mk} {t : Tw} {c : Comp} {cs : List Comp} {w : World} (hT : T[k]? = some t) (hF : DF n T M i) (hA : All (logP t.g t.h t.b (t.b + t.L.length) n t.ps ++ (refP t.p n t.b t.v t.L ++ (hdL D va vb vm (pA T) (pB T) M ++ (OT n T k ++ (c :: cs))))) w) : DeskI n D T.length (i + 1) cs w :=
  ⟨va, vb, vm, T, M, Nat.le_refl _, hF.next, (desk_back hT hA).mid⟩
/-- The desk, as it is read. -/
structure DRead (w : World) (D N k : Nat) (ra ca rb cb : Nat) (g p : Nat) : Prop where
  c0 : w.cell? ⟨D, 0, none⟩ = some (.slice (some ⟨ra, 0, none⟩) N ca)
  c1 : w.cell? ⟨D, 1, none⟩ = some (.slice (some ⟨rb, 0, none⟩) N cb)
  pa : w.cell? ⟨ra, k, none⟩ = some (.pointer (some ⟨g, 0, none⟩))
  pb : w.cell? ⟨rb, k, none⟩ = some (.pointer (some ⟨p, 0, none⟩))
theorem desk_reads {n D k : Nat} {va vb vm : Value} {T : List Tw} {M : List Mk} {t : Tw} {Z : List Comp} {w : World} (h : T[k]? = some t) (hA : All (deskL n D va vb vm T M ++ Z) w) : ∃ ra ca rb cb, va = .slice (some ⟨ra, 0, none⟩) T.length ca ∧ vb = .slice (some ⟨rb, 0, none⟩) T.length cb ∧ DRead w D T.length k ra ca rb cb t.g t.p := by
  have hD : w.heap[D]? = some (.cells [va, vb, vm].toArray 35 (0, 0)) := hA.blk (by simp [deskL, hdL])
  have hRA : w.ownsRow 0 23 1 va (pA T).length (pA T) := (hA.mem (c := ownC 23 va (pA T)) (by simp [deskL, hdL])).2.1
  have hRB : w.ownsRow 0 27 1 vb (pB T).length (pB T) := (hA.mem (c := ownC 27 vb (pB T)) (by simp [deskL, hdL])).2.1
  obtain ⟨aa, ca, rfl⟩ := owns_form hRA
  obtain ⟨ab, cb, rfl⟩ := owns_form hRB
  obtain ⟨ra, rfl, pa, _⟩ := owns_at hRA (k := k) (u := .pointer (some ⟨t.g, 0, none⟩)) (by simp [pA, h])
  obtain ⟨rb, rfl, pb, _⟩ := owns_at hRB (k := k) (u := .pointer (some ⟨t.p, 0, none⟩)) (by simp [pB, h])
  rw [pA_len] at hD ⊢
  rw [pB_len] at hD ⊢
  exact ⟨ra, ca, rb, cb, rfl, rfl, by rw [cell_at hD]; rfl, by rw [cell_at hD]; rfl, pa, pb⟩
end Go.Proofs.Ythjoppgomopkfaa
