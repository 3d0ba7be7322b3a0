import Derived.Test.YtdndfbgjaadbmaaRRead
namespace Go.Proofs.Ytdndfbgjaadbmaa
open Go.RowKit
set_option linter.unusedVariables false

/-- A pair of readers. -/
structure Pair where
  b : Nat
  D : Option Nat
  rv : Value
  x : Nat
  v : Value
  rs : List UInt8
  place : Nat
  err : Int

def Pair.cs (p : Pair) (B : List UInt8) : List Comp := [prC p.b p.D p.rv p.rs p.place p.err, xrC p.x p.v B p.rs p.place p.err]

/-- The two pairs of readers, where they are kept, and what came in. -/
def csR (w0 : World) (PA XA DA : Nat) (s0 s1 : Value) (B0 B1 : List UInt8) (p0 p1 : Pair) : List Comp :=
  prC p0.b p0.D p0.rv p0.rs p0.place p0.err :: xrC p0.x p0.v B0 p0.rs p0.place p0.err :: prC p1.b p1.D p1.rv p1.rs p1.place p1.err :: xrC p1.x p1.v B1 p1.rs p1.place p1.err :: arrC PA 46 #[ptr p0.b, ptr p1.b] :: arrC XA 48 #[ptr p0.x, ptr p1.x] :: arrC DA 44 #[s0, s1] :: [inC w0]

/-- While the readers are made. -/
def LR (w0 : World) (PA XA DA : Nat) (s0 s1 : Value) (B0 B1 : List UInt8) (k : Nat) (w : World) : Prop :=
  match k with
  | 0 => All (arrC PA 46 #[.pointer none, .pointer none] :: arrC XA 48 #[.pointer none, .pointer none] :: arrC DA 44 #[s0, s1] :: [inC w0]) w
  | 1 => ∃ p0 : Pair, All (arrC PA 46 #[ptr p0.b, .pointer none] :: arrC XA 48 #[ptr p0.x, .pointer none] :: arrC DA 44 #[s0, s1] :: prC p0.b p0.D p0.rv p0.rs p0.place p0.err :: xrC p0.x p0.v B0 p0.rs p0.place p0.err :: [inC w0]) w
  | _ => ∃ p0 p1 : Pair, All (csR w0 PA XA DA s0 s1 B0 B1 p0 p1) w

/-- The memory with one more pair to be made. -/
structure LRo (w0 : World) (PA XA DA : Nat) (s0 s1 : Value) (B0 B1 : List UInt8) (k : Nat) (w : World) (pa xa : Array Value) (cs : List Comp) (s : Value) (B : List UInt8) : Prop where
  all : All (arrC PA 46 pa :: arrC XA 48 xa :: arrC DA 44 #[s0, s1] :: cs) w
  hp : pa[k]? = some (.pointer none)
  hx : xa[k]? = some (.pointer none)
  hs : #[s0, s1][k]? = some s
  hB : B = B0 ∨ B = B1
  reads : ReadsW w s B
  reads0 : ReadsW w0 s B
  came : inC w0 ∈ cs
  back : ∀ (w' : World) (b : Nat) (D : Option Nat) (rv : Value) (x : Nat) (v : Value), All (prC b D rv B 0 0 :: xrC x v B B 0 0 :: arrC PA 46 (pa.setIfInBounds k (ptr b)) :: arrC XA 48 (xa.setIfInBounds k (ptr x)) :: arrC DA 44 #[s0, s1] :: cs) w' → LR w0 PA XA DA s0 s1 B0 B1 (k + 1) w'

theorem LR.opens {w0 : World} {PA XA DA : Nat} {s0 s1 : Value} {B0 B1 : List UInt8} {k : Nat} {w : World} (h : LR w0 PA XA DA s0 s1 B0 B1 k w) (hk : k < 2) (h0 : ReadsW w0 s0 B0) (h1 : ReadsW w0 s1 B1) :
    ∃ pa xa cs s B, LRo w0 PA XA DA s0 s1 B0 B1 k w pa xa cs s B := by
  rcases (show k = 0 ∨ k = 1 by omega) with rfl | rfl
  · have ha : All (arrC PA 46 #[.pointer none, .pointer none] :: arrC XA 48 #[.pointer none, .pointer none] :: arrC DA 44 #[s0, s1] :: [inC w0]) w := h
    have hb : Below w0.heap.size w0 w := (ha.mem (c := inC w0) (by simp)).2.1
    refine ⟨_, _, _, s0, B0, ha, rfl, rfl, rfl, Or.inl rfl, h0.below hb, h0, by simp, fun w' b D rv x v hA => ?_⟩
    exact ⟨⟨b, D, rv, x, v, B0, 0, 0⟩, (hA.place 4 (Nat.le_of_ble_eq_true rfl)).place 4 (Nat.le_of_ble_eq_true rfl)⟩
  · obtain ⟨p0, ha⟩ := h
    have hb : Below w0.heap.size w0 w := (ha.mem (c := inC w0) (by simp)).2.1
    refine ⟨_, _, _, s1, B1, ha, rfl, rfl, rfl, Or.inr rfl, h1.below hb, h1, by simp, fun w' b D rv x v hA => ?_⟩
    refine ⟨p0, ⟨b, D, rv, x, v, B1, 0, 0⟩, ?_⟩
    have h1 := ((hA.pick 5 _ rfl).pick 6 _ rfl)
    exact h1.swap

theorem csR_below {w0 : World} {PA XA DA : Nat} {s0 s1 : Value} {B0 B1 : List UInt8} {p0 p1 : Pair} {w : World} (h : All (csR w0 PA XA DA s0 s1 B0 B1 p0 p1) w) : Below w0.heap.size w0 w :=
  (h.mem (c := inC w0) (by simp [csR])).2.1

/-- The readers whose turn it is. -/
structure RTurn (PA XA : Nat) (kk : Nat) (w : World) (B0 B1 : List UInt8) (p : Pair) (B : List UInt8) (rest : List Comp) : Prop where
  c0 : w.cell? ⟨PA, kk, none⟩ = some (.pointer (some ⟨p.b, 0, none⟩))
  c1 : w.cell? ⟨XA, kk, none⟩ = some (.pointer (some ⟨p.x, 0, none⟩))
  hB : B = B0 ∨ B = B1

theorem csR_turn {w0 : World} {PA XA DA : Nat} {s0 s1 : Value} {B0 B1 : List UInt8} {p0 p1 : Pair} {w : World} (h : All (csR w0 PA XA DA s0 s1 B0 B1 p0 p1) w) (kk : Nat) (hk : kk < 2) :
    ∃ p B rest, RTurn PA XA kk w B0 B1 p B rest ∧ (csR w0 PA XA DA s0 s1 B0 B1 p0 p1).Perm (prC p.b p.D p.rv p.rs p.place p.err :: xrC p.x p.v B p.rs p.place p.err :: rest) ∧
      (∀ rv rs place err, ∃ q0 q1 : Pair, (csR w0 PA XA DA s0 s1 B0 B1 q0 q1).Perm (prC p.b p.D rv rs place err :: xrC p.x p.v B rs place err :: rest)) ∧ arrC PA 46 #[ptr p0.b, ptr p1.b] ∈ rest ∧ arrC XA 48 #[ptr p0.x, ptr p1.x] ∈ rest := by
  have h1 : w.heap[PA]? = some (.cells #[ptr p0.b, ptr p1.b] 46 (0, 0)) := (h.mem (c := arrC PA 46 #[ptr p0.b, ptr p1.b]) (by simp [csR])).2.1
  have h2 : w.heap[XA]? = some (.cells #[ptr p0.x, ptr p1.x] 48 (0, 0)) := (h.mem (c := arrC XA 48 #[ptr p0.x, ptr p1.x]) (by simp [csR])).2.1
  rcases (show kk = 0 ∨ kk = 1 by omega) with rfl | rfl
  · refine ⟨p0, B0, _, ⟨by rw [cell_at h1]; rfl, by rw [cell_at h2]; rfl, Or.inl rfl⟩, List.Perm.refl _, fun rv rs place err => ⟨⟨p0.b, p0.D, rv, p0.x, p0.v, rs, place, err⟩, p1, List.Perm.refl _⟩, by simp, by simp⟩
  · have p : ∀ q1 : Pair, (csR w0 PA XA DA s0 s1 B0 B1 p0 q1).Perm (prC q1.b q1.D q1.rv q1.rs q1.place q1.err :: xrC q1.x q1.v B1 q1.rs q1.place q1.err :: (prC p0.b p0.D p0.rv p0.rs p0.place p0.err :: xrC p0.x p0.v B0 p0.rs p0.place p0.err :: arrC PA 46 #[ptr p0.b, ptr q1.b] :: arrC XA 48 #[ptr p0.x, ptr q1.x] :: arrC DA 44 #[s0, s1] :: [inC w0])) := fun q1 =>
      (List.perm_middle (a := prC q1.b q1.D q1.rv q1.rs q1.place q1.err) (l₁ := [prC p0.b p0.D p0.rv p0.rs p0.place p0.err, xrC p0.x p0.v B0 p0.rs p0.place p0.err])).trans (List.Perm.cons _ (List.perm_middle (a := xrC q1.x q1.v B1 q1.rs q1.place q1.err) (l₁ := [prC p0.b p0.D p0.rv p0.rs p0.place p0.err, xrC p0.x p0.v B0 p0.rs p0.place p0.err])))
    exact ⟨p1, B1, _, ⟨by rw [cell_at h1]; rfl, by rw [cell_at h2]; rfl, Or.inr rfl⟩, p p1, fun rv rs place err => ⟨p0, ⟨p1.b, p1.D, rv, p1.x, p1.v, rs, place, err⟩, p _⟩, by simp, by simp⟩

/-- The law's memory. -/
def Mr (w0 : World) (PA XA DA : Nat) (s0 s1 : Value) (B0 B1 : List UInt8) (S N : Nat) (w : World) : Prop :=
  ∃ p0 p1 ov wv es, es.length ≤ N ∧ (∀ e ∈ es, e.la = e.lm ∧ e.la.length ≤ 1099511627776) ∧ All (Cn S ov wv es (csR w0 PA XA DA s0 s1 B0 B1 p0 p1)) w

theorem Mr.below {w0 : World} {PA XA DA : Nat} {s0 s1 : Value} {B0 B1 : List UInt8} {S N : Nat} {w : World} (h : Mr w0 PA XA DA s0 s1 B0 B1 S N w) : Below w0.heap.size w0 w := by
  obtain ⟨p0, p1, ov, wv, es, _, _, hA⟩ := h
  exact csR_below (Cn.right hA)

theorem Mr.turn {w0 : World} {PA XA DA : Nat} {s0 s1 : Value} {B0 B1 : List UInt8} {S N : Nat} {w : World} (h : Mr w0 PA XA DA s0 s1 B0 B1 S N w) (kk : Nat) (hk : kk < 2) (hB0 : B0.length ≤ 1099511627776) (hB1 : B1.length ≤ 1099511627776) :
    ∃ p B rest ov wv es, RTurn PA XA kk w B0 B1 p B rest ∧ es.length ≤ N ∧ All (Cn S ov wv es (prC p.b p.D p.rv p.rs p.place p.err :: xrC p.x p.v B p.rs p.place p.err :: rest)) w ∧
      ∀ w2, RdEnd S es p.b p.D p.x p.v B rest w2 → Mr w0 PA XA DA s0 s1 B0 B1 S (N + 1) w2 := by
  obtain ⟨p0, p1, ov, wv, es, hN, hok, hA⟩ := h
  obtain ⟨p, B, rest, ht, hp, hback, _⟩ := csR_turn (Cn.right hA) kk hk
  refine ⟨p, B, rest, ov, wv, es, ht, hN, Cn.perm hA hp, fun w2 hE => ?_⟩
  obtain ⟨ov', wv', es', rv, rs, place, err, hl, hes, hA2⟩ := hE
  obtain ⟨q0, q1, hq⟩ := hback rv rs place err
  refine ⟨q0, q1, ov', wv', es', by omega, fun e he => ?_, Cn.perm hA2 hq.symm⟩
  rcases hes e he with h | ⟨h, h2⟩
  · exact hok e h
  · refine ⟨h, ?_⟩
    rcases ht.hB with rfl | rfl <;> omega

/-- The readers alone. -/
def Lr (w0 : World) (PA XA DA : Nat) (s0 s1 : Value) (B0 B1 : List UInt8) (w : World) : Prop := ∃ p0 p1, All (csR w0 PA XA DA s0 s1 B0 B1 p0 p1) w

theorem Lr.turn {w0 : World} {PA XA DA : Nat} {s0 s1 : Value} {B0 B1 : List UInt8} {w : World} (h : Lr w0 PA XA DA s0 s1 B0 B1 w) (kk : Nat) (hk : kk < 2) :
    ∃ p B rest pa xa, RTurn PA XA kk w B0 B1 p B rest ∧ All (prC p.b p.D p.rv p.rs p.place p.err :: xrC p.x p.v B p.rs p.place p.err :: rest) w ∧ arrC PA 46 pa ∈ rest ∧ arrC XA 48 xa ∈ rest ∧ pa[kk]? = some (.pointer (some ⟨p.b, 0, none⟩)) ∧ xa[kk]? = some (.pointer (some ⟨p.x, 0, none⟩)) ∧
      ∀ w2 rv rs place err, All (prC p.b p.D rv rs place err :: xrC p.x p.v B rs place err :: rest) w2 → Lr w0 PA XA DA s0 s1 B0 B1 w2 := by
  obtain ⟨p0, p1, hA⟩ := h
  obtain ⟨p, B, rest, ht, hp, hback, m1, m2⟩ := csR_turn hA kk hk
  have e1 := ht.c0
  have e2 := ht.c1
  rw [cell_at (((hA.perm hp).mem (List.mem_cons_of_mem _ (List.mem_cons_of_mem _ m1))).2.1)] at e1
  rw [cell_at (((hA.perm hp).mem (List.mem_cons_of_mem _ (List.mem_cons_of_mem _ m2))).2.1)] at e2
  refine ⟨p, B, rest, _, _, ht, hA.perm hp, m1, m2, e1, e2, fun w2 rv rs place err hA2 => ?_⟩
  obtain ⟨q0, q1, hq⟩ := hback rv rs place err
  exact ⟨q0, q1, hA2.perm hq.symm⟩

/-- A byte of a list is turned. -/
theorem All.row_next {L n : Nat} {ll : List UInt8} {cs : List Comp} {w : World} (h : All (rowC (.slice (some ⟨L, 0, none⟩) n n) ll :: cs) w) (hl : ll.length = n) (i : Nat) (hi : i < n) :
    ∃ y : Nat, y < 256 ∧ w.cell? ⟨L, i, none⟩ = some (.int .u8 (y : Int)) ∧ w.frozen? ⟨L, i, none⟩ = false ∧ ∀ u : Int, u = ((y : Int) + 1) % 256 → ∃ z, All (rowC (.slice (some ⟨L, 0, none⟩) n n) (ll.set i z) :: cs) (w.setCell ⟨L, i, none⟩ (.int .u8 u)) := by
  have ho : w.ownsRow 0 5 1 (.slice (some ⟨L, 0, none⟩) n n) ll.length (cellsB ll) := h.1.2.1
  rw [hl] at ho
  have hk : i < ll.length := by omega
  refine ⟨(ll[i]).toNat, (ll[i]).toNat_lt, ?_, World.ownsRow.frozenAt ho i, fun u hu => ⟨UInt8.ofNat ((ll[i]).toNat + 1), ?_⟩⟩
  · have := World.ownsRow.cells ho (g := L) rfl i (.int .u8 ((ll[i]).toNat : Int)) (by simp [cellsB, hk])
    simpa [Addr.add_lit] using this
  · have e : u = ((UInt8.ofNat ((ll[i]).toNat + 1)).toNat : Int) := by
      rw [UInt8.toNat_ofNat']
      omega
    rw [e]
    exact h.row_set _ hl.symm

end Go.Proofs.Ytdndfbgjaadbmaa
