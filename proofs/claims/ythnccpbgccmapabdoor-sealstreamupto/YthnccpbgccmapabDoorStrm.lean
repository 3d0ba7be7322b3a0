import Derived.Test.YthnccpbgccmapabDoorAsks
namespace Go.Proofs.YthnccpbgccmapabDoor
open Go.RowKit
set_option linter.unusedVariables false

/-- What a stream has inside. -/
structure Sv where
  hv : Value
  fv : Value
  s : Lk
  vs : List Value

def strC (P : Nat) (X : List UInt8) (ps : List (List UInt8)) (L : Nat) (v : Sv) : List Comp := stC P v.hv v.s v.fv L :: rowC v.hv X :: qC v.fv v.vs :: rowsP v.vs ps

structure SvOk (X : List UInt8) (ps : List (List UInt8)) (v : Sv) : Prop where
  len : v.vs.length = ps.length
  ok : v.s.Ok
  sc : scan .init X = .more v.s
  tg : ∀ x ∈ v.vs, TightV x

/-- A stream that holds X, has ps waiting, has let L by; the other parts. -/
def Str (P : Nat) (X : List UInt8) (ps : List (List UInt8)) (L : Nat) (cs : List Comp) (w : World) : Prop := ∃ v, SvOk X ps v ∧ All (strC P X ps L v ++ cs) w

theorem rowsP_app {vs : List Value} {ps : List (List UInt8)} (h : vs.length = ps.length) (us : List Value) (qs : List (List UInt8)) : rowsP (vs ++ us) (ps ++ qs) = rowsP vs ps ++ rowsP us qs := by
  induction vs generalizing ps with
  | nil =>
    have : ps = [] := List.eq_nil_of_length_eq_zero (by simpa using h.symm)
    subst this
    rfl
  | cons x vs ih =>
    cases ps with
    | nil => simp at h
    | cons y ps => simp only [List.cons_append, rowsP, ih (by simpa using h)]

theorem Str.new {cs : List Comp} {w : World} (h : All cs w) : Calls Tryd.prog 7 #[] w fun e w' => ∃ P, e = .returned (.pointer (some ⟨P, 0, none⟩)) ∧ Str P [] [] 0 cs w' :=
  (NewStream_st h).mono fun e w' ⟨P, he, hA⟩ => ⟨P, he, ⟨⟨_, _, .init, []⟩, ⟨rfl, Lk.init_ok, rfl, fun x hx => by cases hx⟩, hA⟩⟩

theorem Str.feed {P : Nat} {X b : List UInt8} {ps : List (List UInt8)} {L : Nat} {cs : List Comp} {w w0 : World} {bv : Value} (h : Str P X ps L cs w) (hin : inC w0 ∈ cs) (hT : Tab w0) (hb : Reads w bv b) (hlen : X.length + b.length ≤ 549755813888) (hvl : ps.length ≤ 549755813888) (hL : L ≤ 1099511627776) :
    Calls Tryd.prog 12 #[.pointer (some ⟨P, 0, none⟩), bv] w fun e w' => e = .returned (.tuple #[]) ∧ Str P (fin (X ++ b)).2.2 (ps ++ (fin (X ++ b)).1) (L + (fin (X ++ b)).2.1) cs w' := by
  obtain ⟨v, hv, hA⟩ := h
  refine (Feed_some (g := 0) (cap := 0) (cs := rowsP v.vs ps ++ cs) hA (by simp [hin]) hT hb hv.ok hv.sc hlen (by rw [hv.len]; exact hvl) hL).mono ?_
  rintro e w' ⟨he, hv', s', fv', ns, hns, hA', hs', hsc', htg'⟩
  refine ⟨he, ⟨hv', fv', s', v.vs ++ ns⟩, ⟨by simp [hv.len, hns], hs', hsc', fun x hx => (List.mem_append.1 hx).elim (hv.tg x) (htg' x)⟩, ?_⟩
  refine hA'.perm ?_
  show (stC P hv' s' fv' _ :: rowC hv' _ :: qC fv' (v.vs ++ ns) :: (rowsP ns _ ++ (rowsP v.vs ps ++ cs))).Perm (stC P hv' s' fv' _ :: rowC hv' _ :: qC fv' (v.vs ++ ns) :: (rowsP (v.vs ++ ns) (ps ++ _) ++ cs))
  rw [rowsP_app hv.len]
  refine (((?_ : List.Perm _ _).cons _).cons _).cons _
  rw [← List.append_assoc]
  exact List.perm_append_comm.append_right cs

theorem Str.next {P : Nat} {X p : List UInt8} {ps : List (List UInt8)} {L : Nat} {cs : List Comp} {w : World} (h : Str P X (p :: ps) L cs w) (hl : ps.length ≤ 1099511627776) :
    Calls Tryd.prog 13 #[.pointer (some ⟨P, 0, none⟩)] w fun e w' => ∃ v, e = .returned (.tuple #[v, .bool true]) ∧ Str P X ps L (rowC v p :: cs) w' := by
  obtain ⟨v, hv, hA⟩ := h
  obtain ⟨hv0, fv0, s0, vs0⟩ := v
  have hlen : vs0.length = ps.length + 1 := by simpa using hv.len
  cases vs0 with
  | nil => simp at hlen
  | cons x vs =>
    have p1 : (strC P X (p :: ps) L ⟨hv0, fv0, s0, x :: vs⟩ ++ cs).Perm (stC P hv0 s0 fv0 L :: qC fv0 (x :: vs) :: (rowC hv0 X :: rowC x p :: (rowsP vs ps ++ cs))) := (List.Perm.swap _ _ _).cons _
    refine (Next_some (hA.perm p1) (by simp at hlen; omega)).mono ?_
    rintro e w' ⟨he, fv', hA'⟩
    refine ⟨x, he, ⟨hv0, fv', s0, vs⟩, ⟨by simpa using hlen, hv.ok, hv.sc, fun y hy => hv.tg y (by simp [hy])⟩, hA'.perm ?_⟩
    show (stC P hv0 s0 fv' L :: qC fv' vs :: (rowC hv0 X :: rowC x p :: (rowsP vs ps ++ cs))).Perm (stC P hv0 s0 fv' L :: rowC hv0 X :: qC fv' vs :: (rowsP vs ps ++ (rowC x p :: cs)))
    refine List.Perm.cons _ ((List.Perm.swap _ _ _).trans (List.Perm.cons _ (List.Perm.cons _ ?_)))
    exact List.perm_middle.symm

/-- The same, and the payload has no spare room. -/
theorem Str.nextT {P : Nat} {X p : List UInt8} {ps : List (List UInt8)} {L : Nat} {cs : List Comp} {w : World} (h : Str P X (p :: ps) L cs w) (hl : ps.length ≤ 1099511627776) :
    Calls Tryd.prog 13 #[.pointer (some ⟨P, 0, none⟩)] w fun e w' => ∃ v, e = .returned (.tuple #[v, .bool true]) ∧ TightV v ∧ Str P X ps L (rowC v p :: cs) w' := by
  obtain ⟨v, hv, hA⟩ := h
  obtain ⟨hv0, fv0, s0, vs0⟩ := v
  have hlen : vs0.length = ps.length + 1 := by simpa using hv.len
  cases vs0 with
  | nil => simp at hlen
  | cons x vs =>
    have p1 : (strC P X (p :: ps) L ⟨hv0, fv0, s0, x :: vs⟩ ++ cs).Perm (stC P hv0 s0 fv0 L :: qC fv0 (x :: vs) :: (rowC hv0 X :: rowC x p :: (rowsP vs ps ++ cs))) := (List.Perm.swap _ _ _).cons _
    refine (Next_some (hA.perm p1) (by simp at hlen; omega)).mono ?_
    rintro e w' ⟨he, fv', hA'⟩
    refine ⟨x, he, hv.tg x (by simp), ⟨hv0, fv', s0, vs⟩, ⟨by simpa using hlen, hv.ok, hv.sc, fun y hy => hv.tg y (by simp [hy])⟩, hA'.perm ?_⟩
    show (stC P hv0 s0 fv' L :: qC fv' vs :: (rowC hv0 X :: rowC x p :: (rowsP vs ps ++ cs))).Perm (stC P hv0 s0 fv' L :: rowC hv0 X :: qC fv' vs :: (rowsP vs ps ++ (rowC x p :: cs)))
    refine List.Perm.cons _ ((List.Perm.swap _ _ _).trans (List.Perm.cons _ (List.Perm.cons _ ?_)))
    exact List.perm_middle.symm

theorem Str.drewN {P : Nat} {X : List UInt8} {ps : List (List UInt8)} {L : Nat} {cs : List Comp} {w : World} (h : Str P X ps L cs w) (q : Nat) : Str P X ps L cs (w.drewN q) := by
  obtain ⟨v, hv, hA⟩ := h
  exact ⟨v, hv, hA.later (bdN w q)⟩

theorem Str.later {P : Nat} {X : List UInt8} {ps : List (List UInt8)} {L : Nat} {cs : List Comp} {w w' : World} (h : Str P X ps L cs w) (hb : Below w.heap.size w w') : Str P X ps L cs w' := by
  obtain ⟨v, hv, hA⟩ := h
  exact ⟨v, hv, hA.later hb⟩

theorem Str.empty {P : Nat} {X : List UInt8} {L : Nat} {cs : List Comp} {w : World} (h : Str P X [] L cs w) :
    Calls Tryd.prog 13 #[.pointer (some ⟨P, 0, none⟩)] w fun e w' => e = .returned (.tuple #[.slice none 0 0, .bool false]) ∧ ∃ q, w' = w.drewN q := by
  obtain ⟨v, hv, hA⟩ := h
  have h0 : v.vs = [] := List.eq_nil_of_length_eq_zero (by simpa using hv.len)
  have hq : Que w v.fv v.vs := hA.2.2.2.2.1.2.1
  rw [h0] at hq
  exact Next_none hA.1.2.1 hq

theorem Str.lost {P : Nat} {X : List UInt8} {ps : List (List UInt8)} {L : Nat} {cs : List Comp} {w : World} (h : Str P X ps L cs w) :
    Calls Tryd.prog 15 #[.pointer (some ⟨P, 0, none⟩)] w fun e w' => e = .returned (.int .i64 (L : Int)) ∧ ∃ q, w' = w.drewN q := by
  obtain ⟨v, hv, hA⟩ := h
  exact Lost_st hA.1.2.1

theorem Str.held {P : Nat} {X : List UInt8} {ps : List (List UInt8)} {L : Nat} {cs : List Comp} {w : World} (h : Str P X ps L cs w) :
    Calls Tryd.prog 16 #[.pointer (some ⟨P, 0, none⟩)] w fun e w' => e = .returned (.int .i64 (X.length : Int)) ∧ ∃ q, w' = w.drewN q := by
  obtain ⟨v, hv, hA⟩ := h
  exact Held_st hA.1.2.1 (hA.2.2.1.2.1 : w.ownsRow 0 5 1 v.hv X.length (cellsB X))

theorem Str.mem {P : Nat} {X : List UInt8} {ps : List (List UInt8)} {L : Nat} {cs : List Comp} {w : World} (h : Str P X ps L cs w) {c : Comp} (hc : c ∈ cs) : c.holds w := by
  obtain ⟨v, hv, hA⟩ := h
  exact (hA.mem (by simp [hc])).2.1

theorem Str.into {P : Nat} {X : List UInt8} {ps : List (List UInt8)} {L : Nat} {cs : List Comp} {w w0 : World} (h : Str P X ps L cs w) (hin : inC w0 ∈ cs) : Below w0.heap.size w0 w := h.mem hin

theorem Str.rest {P : Nat} {X : List UInt8} {ps : List (List UInt8)} {L : Nat} {cs ds : List Comp} {w : World} (h : Str P X ps L cs w) (p : cs.Perm ds) : Str P X ps L ds w := by
  obtain ⟨v, hv, hA⟩ := h
  exact ⟨v, hv, hA.perm (p.append_left _)⟩

/-- A part is dropped from sight. -/
theorem All.mid {xs bs : List Comp} {c : Comp} {w : World} (h : All (xs ++ c :: bs) w) : All (xs ++ bs) w := (h.perm List.perm_middle).tail

theorem Str.drop {P : Nat} {X : List UInt8} {ps : List (List UInt8)} {L : Nat} {c : Comp} {cs : List Comp} {w : World} (h : Str P X ps L (c :: cs) w) : Str P X ps L cs w := by
  obtain ⟨v, hv, hA⟩ := h
  exact ⟨v, hv, All.mid hA⟩

/-- Something is done to the other parts alone. -/
theorem Str.turnRest {P : Nat} {X : List UInt8} {ps : List (List UInt8)} {L : Nat} {c c' : Comp} {cs : List Comp} {w w' : World} (h : Str P X ps L (c :: cs) w) (hf : Fr c.fp w w') (hg : c'.Good) (hh : c'.holds w') (hgr : Gr c.fp c'.fp w.heap.size) (hlt : ∀ k ∈ c'.fp, k < w'.heap.size) : Str P X ps L (c' :: cs) w' := by
  obtain ⟨v, hv, hA⟩ := h
  exact ⟨v, hv, ((hA.perm List.perm_middle).turn hf hg hh hgr hlt).perm List.perm_middle.symm⟩

/-- Lists of bytes that came in. -/
def Lists (w : World) (v : Value) (ls : List (List UInt8)) : Prop := ∃ ao c, v = .slice ao ls.length c ∧ (ls = [] ∨ ∃ b off, ao = some ⟨b, off, none⟩ ∧ b < w.heap.size ∧ ∀ i l, ls[i]? = some l → ∃ u, w.cell? ⟨b, off + i, none⟩ = some u ∧ Reads w u l)

theorem Reads.under {w w' : World} {v : Value} {l : List UInt8} (h : Reads w v l) (hb : Below w.heap.size w w') : Reads w' v l := h.kept hb.size (fun k hk _ => hb.block k hk)

theorem Lists.at {w : World} {ao : Option Addr} {n c : Nat} {ls : List (List UInt8)} (h : Lists w (.slice ao n c) ls) {i : Nat} {l : List UInt8} (hi : ls[i]? = some l) : ∃ g o u, ao = some ⟨g, o, none⟩ ∧ g < w.heap.size ∧ w.cell? ⟨g, o + i, none⟩ = some u ∧ Reads w u l := by
  obtain ⟨ao', c', e, hcase⟩ := h
  simp only [Value.slice.injEq] at e
  obtain ⟨rfl, rfl, rfl⟩ := e
  rcases hcase with rfl | ⟨g, o, rfl, hg, hcell⟩
  · simp at hi
  · obtain ⟨u, h1, h2⟩ := hcell i l hi
    exact ⟨g, o, u, rfl, hg, h1, h2⟩

theorem Lists.form {w : World} {v : Value} {ls : List (List UInt8)} (h : Lists w v ls) : ∃ ao c, v = .slice ao ls.length c := by
  obtain ⟨ao, c, rfl, _⟩ := h
  exact ⟨ao, c, rfl⟩

theorem cell_under {w w' : World} (hb : Below w.heap.size w w') {g j : Nat} (hg : g < w.heap.size) {u : Value} (h : w.cell? ⟨g, j, none⟩ = some u) : w'.cell? ⟨g, j, none⟩ = some u := by
  rw [← h]
  unfold World.cell?
  rw [hb.block g hg]

/-- Bytes of one of these lists, taken one by one. -/
theorem Reads.one {w : World} {ao : Option Addr} {n c : Nat} {l : List UInt8} (h : Reads w (.slice ao n c) l) (k : Nat) (hk : k < l.length) {g o : Nat} (ha : ao = some ⟨g, o, none⟩) (c' : Nat) (hc : 1 ≤ c') : Reads w (.slice (some ⟨g, o + k, none⟩) 1 c') [l.getD k 0] := by
  subst ha
  have := h.sub k 1 c' (by omega) hc
  have e : (l.drop k).take 1 = [l.getD k 0] := by
    rw [List.drop_eq_getElem_cons hk, List.getD_eq_getElem?_getD, List.getElem?_eq_getElem hk]
    rfl
  rw [e] at this
  exact this
end Go.Proofs.YthnccpbgccmapabDoor
