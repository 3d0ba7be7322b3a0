import Derived.Test.YthnccpbgccmapabDoorRowLaw
namespace Go.Proofs.YthnccpbgccmapabDoor
open Go.RowKit
set_option linter.unusedVariables false

/-- Whole numbers that came in. -/
def IntsAt (w : World) (v : Value) (ns : List Int) : Prop := ∃ ao c, v = .slice ao ns.length c ∧ (ns = [] ∨ ∃ b off, ao = some ⟨b, off, none⟩ ∧ b < w.heap.size ∧ ∀ (i : Nat) n, ns[i]? = some n → w.cell? ⟨b, off + i, none⟩ = some (.int .i64 n))

theorem IntsAt.form {w : World} {v : Value} {ns : List Int} (h : IntsAt w v ns) : ∃ ao c, v = .slice ao ns.length c := by
  obtain ⟨ao, c, rfl, _⟩ := h
  exact ⟨ao, c, rfl⟩

theorem IntsAt.at {w w' : World} {ao : Option Addr} {n c : Nat} {ns : List Int} (h : IntsAt w (.slice ao n c) ns) (hb : Below w.heap.size w w') {i : Nat} {x : Int} (hi : ns[i]? = some x) : ∃ g o, ao = some ⟨g, o, none⟩ ∧ w'.cell? ⟨g, o + i, none⟩ = some (.int .i64 x) := by
  obtain ⟨ao', c', e, hcase⟩ := h
  simp only [Value.slice.injEq] at e
  obtain ⟨rfl, rfl, rfl⟩ := e
  rcases hcase with rfl | ⟨g, o, rfl, hg, hcell⟩
  · simp at hi
  · exact ⟨g, o, rfl, cell_under hb hg (hcell i x hi)⟩

/-- Bytes from a place on, so many of them. -/
theorem Reads.cutAt {w : World} {ao : Option Addr} {n c : Nat} {l : List UInt8} (h : Reads w (.slice ao n c) l) {p m : Nat} (hm : p + m ≤ l.length) {ad : Option Addr} {c' : Nat} (hc : m ≤ c') (had : 0 < m → ∀ g o, ao = some ⟨g, o, none⟩ → ad = some ⟨g, o + p, none⟩) (hn : ad = none → c' = 0) : Reads w (.slice ad m c') ((l.drop p).take m) := by
  have hlen : ((l.drop p).take m).length = m := by simp; omega
  by_cases h0 : m = 0
  · subst h0
    exact ⟨ad, c', by simp, by simp, Or.inl ⟨by simp, hn⟩⟩
  · obtain ⟨g, o, rfl, _⟩ := h.at_u8 0 (by omega)
    rw [had (by omega) g o rfl]
    exact h.sub p m c' hm hc

/-- What is known while the pieces are fed: 'whole' has been fed all, 'parts' the first bytes; g of its payloads were asked for. -/
def PcR (w : World) (P1 P2 : Nat) (b : List UInt8) (at_ : Nat) (gv : Value) (us : List Value) (wr : World) : Prop :=
  ∃ v1, SvOk (fin b).2.2 (fin b).1 v1 ∧ us.length ≤ (fin (b.take at_)).1.length ∧
    Str P2 (fin (b.take at_)).2.2 ((fin (b.take at_)).1.drop us.length) (fin (b.take at_)).2.1 (slC gv us :: (rowsP us ((fin (b.take at_)).1.take us.length) ++ (strC P1 (fin b).2.2 (fin b).1 (fin b).2.1 v1 ++ [inC w]))) wr

theorem fin_next (b : List UInt8) (at_ n : Nat) : fin (b.take (at_ + n)) = ((fin (b.take at_)).1 ++ (fin ((fin (b.take at_)).2.2 ++ (b.drop at_).take n)).1, (fin (b.take at_)).2.1 + (fin ((fin (b.take at_)).2.2 ++ (b.drop at_).take n)).2.1, (fin ((fin (b.take at_)).2.2 ++ (b.drop at_).take n)).2.2) := by
  rw [← fin_append]
  congr 1
  rw [List.take_add]

theorem fin_rest_le (b : List UInt8) : (fin b).2.2.length ≤ b.length ∧ (fin b).2.1 ≤ b.length ∧ (fin b).1.length ≤ b.length := by
  have h := fin_length b
  have hm : (fin b).1.length ≤ madeP (fin b).1 := by
    generalize (fin b).1 = ps
    induction ps with
    | nil => simp
    | cons p ps ih => simp only [madeP, List.map_cons, List.sum_cons, List.length_cons] at ih ⊢; omega
  omega

theorem PcR.feed {w wr : World} {P1 P2 at_ n : Nat} {b : List UInt8} {gv bv : Value} {us : List Value} (h : PcR w P1 P2 b at_ gv us wr) (hT : Tab w) (hb : Reads wr bv ((b.drop at_).take n)) (hl : b.length ≤ 1048576) :
    Calls Tryd.prog 12 #[.pointer (some ⟨P2, 0, none⟩), bv] wr fun e w' => e = .returned (.tuple #[]) ∧ PcR w P1 P2 b (at_ + n) gv us w' := by
  obtain ⟨v1, hv1, hu, hs⟩ := h
  have h1 := fin_rest_le (b.take at_)
  have h2 : (b.take at_).length ≤ b.length := by simp; omega
  refine (hs.feed (w0 := w) (by simp) hT hb (by simp; omega) (by simp; omega) (by omega)).mono ?_
  rintro e w' ⟨he, hs'⟩
  refine ⟨he, v1, hv1, ?_, ?_⟩
  · rw [fin_next]; simp; omega
  · rw [fin_next]
    simp only []
    rw [List.drop_append_of_le_length hu, List.take_append_of_le_length hu]
    exact hs'

theorem take_snoc {α : Type} {l : List α} {k : Nat} {x : α} (h : l[k]? = some x) : l.take (k + 1) = l.take k ++ [x] := by
  obtain ⟨hk, e⟩ := List.getElem?_eq_some_iff.1 h
  rw [List.take_succ_eq_append_getElem hk, e]

theorem drop_cons {α : Type} {l : List α} {k : Nat} {x : α} (h : l[k]? = some x) : l.drop k = x :: l.drop (k + 1) := by
  obtain ⟨hk, e⟩ := List.getElem?_eq_some_iff.1 h
  rw [List.drop_eq_getElem_cons hk, e]

/-- A payload was asked for: it stands beside, till it is laid by. -/
def PcN (w : World) (P1 P2 : Nat) (b : List UInt8) (at_ : Nat) (gv : Value) (us : List Value) (x : Value) (p : List UInt8) (wr : World) : Prop :=
  (fin (b.take at_)).1[us.length]? = some p ∧ ∃ v1, SvOk (fin b).2.2 (fin b).1 v1 ∧ us.length + 1 ≤ (fin (b.take at_)).1.length ∧
    Str P2 (fin (b.take at_)).2.2 ((fin (b.take at_)).1.drop (us.length + 1)) (fin (b.take at_)).2.1 (slC gv us :: (rowC x p :: (rowsP us ((fin (b.take at_)).1.take us.length) ++ (strC P1 (fin b).2.2 (fin b).1 (fin b).2.1 v1 ++ [inC w])))) wr

theorem PcR.next {w wr : World} {P1 P2 at_ : Nat} {b : List UInt8} {gv : Value} {us : List Value} (h : PcR w P1 P2 b at_ gv us wr) (hl : b.length ≤ 1048576) :
    (us.length < (fin (b.take at_)).1.length ∧ Calls Tryd.prog 13 #[.pointer (some ⟨P2, 0, none⟩)] wr fun e w' => ∃ x p, e = .returned (.tuple #[x, .bool true]) ∧ PcN w P1 P2 b at_ gv us x p w') ∨
    (us.length = (fin (b.take at_)).1.length ∧ Calls Tryd.prog 13 #[.pointer (some ⟨P2, 0, none⟩)] wr fun e w' => e = .returned (.tuple #[.slice none 0 0, .bool false]) ∧ ∃ q, w' = wr.drewN q) := by
  obtain ⟨v1, hv1, hu, hs⟩ := h
  have h1 := fin_rest_le (b.take at_)
  have h2 : (b.take at_).length ≤ b.length := by simp; omega
  by_cases hlt : us.length < (fin (b.take at_)).1.length
  · left
    refine ⟨hlt, ?_⟩
    obtain ⟨p, hp⟩ : ∃ p, (fin (b.take at_)).1[us.length]? = some p := ⟨_, List.getElem?_eq_getElem hlt⟩
    rw [drop_cons hp] at hs
    refine (hs.next (by simp; omega)).mono ?_
    rintro e w' ⟨v, he, hs'⟩
    exact ⟨v, p, he, hp, v1, hv1, by omega, hs'.rest (List.Perm.swap _ _ _)⟩
  · right
    have he : us.length = (fin (b.take at_)).1.length := by omega
    refine ⟨he, ?_⟩
    rw [List.drop_eq_nil_of_le (by omega)] at hs
    exact hs.empty

theorem PcR.drewN {w wr : World} {P1 P2 at_ : Nat} {b : List UInt8} {gv : Value} {us : List Value} (h : PcR w P1 P2 b at_ gv us wr) (q : Nat) : PcR w P1 P2 b at_ gv us (wr.drewN q) := by
  obtain ⟨v1, hv1, hu, hs⟩ := h
  exact ⟨v1, hv1, hu, hs.drewN q⟩

theorem PcN.laid {w wr w1 : World} {P1 P2 at_ base : Nat} {b p : List UInt8} {gv gv' x : Value} {us : List Value} (h : PcN w P1 P2 b at_ gv us x p wr) (hown : w1.ownsRow base 26 1 gv' (us.length + 1) (us ++ [x])) (hg : (wr.alloc (.cells #[x] 26)).grownBy w1 gv.ownBlock) (hat : gv'.ownBlock = gv.ownBlock ∨ gv'.ownBlock = some (wr.alloc (.cells #[x] 26)).heap.size) (hlen : us.length = ((fin (b.take at_)).1.take us.length).length) : PcR w P1 P2 b at_ gv' (us ++ [x]) w1 := by
  obtain ⟨hp, v1, hv1, hu, hs⟩ := h
  refine ⟨v1, hv1, by simpa using hu, ?_⟩
  have h1 := Str.slAppend (hs.later (ba wr (.cells #[x] 26))) hown hg hat
  rw [List.length_append, List.length_singleton, take_snoc hp, rowsP_app hlen]
  refine h1.rest (List.Perm.cons _ ?_)
  rw [List.append_assoc]
  exact List.perm_middle.symm

theorem PcR.sl {w wr : World} {P1 P2 at_ : Nat} {b : List UInt8} {gv : Value} {us : List Value} (h : PcR w P1 P2 b at_ gv us wr) : wr.ownsRow 0 26 1 gv us.length us := by
  obtain ⟨v1, hv1, hu, hs⟩ := h
  exact hs.mem (c := slC gv us) (by simp)
theorem PcN.sl {w wr : World} {P1 P2 at_ : Nat} {b p : List UInt8} {gv x : Value} {us : List Value} (h : PcN w P1 P2 b at_ gv us x p wr) : wr.ownsRow 0 26 1 gv us.length us ∧ wr.ownsRow 0 5 1 x p.length (cellsB p) ∧ us.length = ((fin (b.take at_)).1.take us.length).length ∧ us.length + 1 ≤ (fin (b.take at_)).1.length := by
  obtain ⟨hp, v1, hv1, hu, hs⟩ := h
  exact ⟨hs.mem (c := slC gv us) (by simp), hs.mem (c := rowC x p) (by simp), by simp; omega, hu⟩
theorem PcR.into {w wr : World} {P1 P2 at_ : Nat} {b : List UInt8} {gv : Value} {us : List Value} (h : PcR w P1 P2 b at_ gv us wr) : Below w.heap.size w wr := by
  obtain ⟨v1, hv1, hu, hs⟩ := h
  exact hs.into (by simp)

/-- What is known while the payloads are held against each other. -/
def PcS (w : World) (P1 P2 : Nat) (b : List UInt8) (gv : Value) (us : List Value) (i : Nat) (wr : World) : Prop :=
  ∃ v1, SvOk (fin b).2.2 ((fin b).1.drop i) v1 ∧ us.length ≤ (fin b).1.length ∧
    Str P2 (fin b).2.2 ((fin b).1.drop (max i us.length)) (fin b).2.1 (slC gv us :: (rowsP us ((fin b).1.take us.length) ++ (strC P1 (fin b).2.2 ((fin b).1.drop i) (fin b).2.1 v1 ++ [inC w]))) wr

theorem PcR.toS {w wr : World} {P1 P2 at_ : Nat} {b : List UInt8} {gv : Value} {us : List Value} (h : PcR w P1 P2 b at_ gv us wr) (ha : b.length ≤ at_) : PcS w P1 P2 b gv us 0 wr := by
  obtain ⟨v1, hv1, hu, hs⟩ := h
  rw [List.take_of_length_le ha] at hu hs
  exact ⟨v1, hv1, hu, by rw [Nat.zero_max]; exact hs⟩

theorem PcS.sl {w wr : World} {P1 P2 i : Nat} {b : List UInt8} {gv : Value} {us : List Value} (h : PcS w P1 P2 b gv us i wr) : wr.ownsRow 0 26 1 gv us.length us ∧ us.length ≤ (fin b).1.length ∧ Below w.heap.size w wr := by
  obtain ⟨v1, hv1, hu, hs⟩ := h
  exact ⟨hs.mem (c := slC gv us) (by simp), hu, hs.into (by simp)⟩

theorem rowsP_mem {vs : List Value} {ps : List (List UInt8)} {i : Nat} {v : Value} {p : List UInt8} (hv : vs[i]? = some v) (hp : ps[i]? = some p) : rowC v p ∈ rowsP vs ps := by
  induction vs generalizing ps i with
  | nil => simp at hv
  | cons x vs ih =>
    cases ps with
    | nil => simp at hp
    | cons y ps =>
      cases i with
      | zero => simp at hv hp; subst hv hp; simp [rowsP]
      | succ i => exact List.mem_cons_of_mem _ (ih (by simpa using hv) (by simpa using hp))

theorem PcS.got {w wr : World} {P1 P2 i j : Nat} {b p : List UInt8} {gv u : Value} {us : List Value} (h : PcS w P1 P2 b gv us i wr) (hu : us[j]? = some u) (hp : (fin b).1[j]? = some p) : Reads wr u p := by
  obtain ⟨v1, hv1, hul, hs⟩ := h
  have hj := (List.getElem?_eq_some_iff.1 hu).1
  have : wr.ownsRow 0 5 1 u p.length (cellsB p) := hs.mem (c := rowC u p) (by
    refine List.mem_cons_of_mem _ (List.mem_append_left _ (rowsP_mem hu ?_))
    rw [List.getElem?_take, if_pos hj]
    exact hp)
  exact Reads.of_owns this

/-- 'whole' in front. -/
theorem PcS.turned {w wr : World} {P1 P2 i : Nat} {b : List UInt8} {gv : Value} {us : List Value} (h : PcS w P1 P2 b gv us i wr) :
    ∃ v2, SvOk (fin b).2.2 ((fin b).1.drop (max i us.length)) v2 ∧ Str P1 (fin b).2.2 ((fin b).1.drop i) (fin b).2.1 (strC P2 (fin b).2.2 ((fin b).1.drop (max i us.length)) (fin b).2.1 v2 ++ (slC gv us :: (rowsP us ((fin b).1.take us.length) ++ [inC w]))) wr := by
  obtain ⟨v1, hv1, hu, v2, hv2, hA⟩ := h
  refine ⟨v2, hv2, v1, hv1, hA.perm ?_⟩
  generalize strC P2 _ _ _ _ = a
  generalize strC P1 _ _ _ _ = c
  generalize rowsP _ _ = r
  have e1 : (a ++ (slC gv us :: (r ++ (c ++ [inC w])))).Perm (c ++ (a ++ (slC gv us :: (r ++ [inC w])))) := by
    have e2 : (r ++ (c ++ [inC w])).Perm (c ++ (r ++ [inC w])) := by
      rw [← List.append_assoc, ← List.append_assoc]
      exact List.perm_append_comm.append_right _
    have e3 : (slC gv us :: (c ++ (r ++ [inC w]))).Perm (c ++ (slC gv us :: (r ++ [inC w]))) := List.perm_middle.symm
    have e4 : (a ++ (c ++ (slC gv us :: (r ++ [inC w])))).Perm (c ++ (a ++ (slC gv us :: (r ++ [inC w])))) := by
      rw [← List.append_assoc, ← List.append_assoc]
      exact List.perm_append_comm.append_right _
    exact (((e2.cons _).trans e3).append_left a).trans e4
  exact e1

theorem pcS_of {w wr : World} {P1 P2 i k : Nat} {b : List UInt8} {gv : Value} {us : List Value} {v2 : Sv} (hu : us.length ≤ (fin b).1.length) (hk : k = max i us.length) (hv2 : SvOk (fin b).2.2 ((fin b).1.drop k) v2) (h : Str P1 (fin b).2.2 ((fin b).1.drop i) (fin b).2.1 (strC P2 (fin b).2.2 ((fin b).1.drop k) (fin b).2.1 v2 ++ (slC gv us :: (rowsP us ((fin b).1.take us.length) ++ [inC w]))) wr) : PcS w P1 P2 b gv us i wr := by
  subst hk
  obtain ⟨v1, hv1, hA⟩ := h
  refine ⟨v1, hv1, hu, v2, hv2, hA.perm ?_⟩
  generalize strC P2 _ _ _ _ = a
  generalize strC P1 _ _ _ _ = c
  generalize rowsP _ _ = r
  have e2 : (c ++ (r ++ [inC w])).Perm (r ++ (c ++ [inC w])) := by
    rw [← List.append_assoc, ← List.append_assoc]
    exact List.perm_append_comm.append_right _
  have e3 : (c ++ (slC gv us :: (r ++ [inC w]))).Perm (slC gv us :: (c ++ (r ++ [inC w]))) := List.perm_middle
  have e4 : (c ++ (a ++ (slC gv us :: (r ++ [inC w])))).Perm (a ++ (c ++ (slC gv us :: (r ++ [inC w])))) := by
    rw [← List.append_assoc, ← List.append_assoc]
    exact List.perm_append_comm.append_right _
  exact e4.trans ((e3.trans (e2.cons _)).append_left a)
end Go.Proofs.YthnccpbgccmapabDoor
