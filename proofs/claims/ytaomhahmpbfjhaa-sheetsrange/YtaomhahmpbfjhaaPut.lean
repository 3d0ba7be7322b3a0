import Derived.Test.YtaomhahmpbfjhaaSet
namespace Go.Proofs.Ytaomhahmpbfjhaa
open Go.RowKit Go.Sort
set_option linter.unusedVariables false

/-- A book in memory. -/
def bookL (n lv : Nat) (ps : List Nat) : List Value := treeL [.int .i64 (n : Int)] lv ps

/-- What a book has become. -/
def BookIs (P : Pool) (g n lv : Nat) (cs : List Comp) (N0 : Nodes) (w : World) : Prop := Became P g [.int .i64 (n : Int)] lv 70 cs N0 w

/-- A book with one sheet set. -/
def SetIs (P : Pool) (g n lv : Nat) (cs : List Comp) (N : Nodes) (num a : Nat) (l : List UInt8) (w : World) : Prop := ∃ v, BookIs P g n lv cs (upd N (lv + num) (a, v, l)) w

set_option maxHeartbeats 4000000 in
theorem set_all {w : World} {g num lv n : Nat} {ps : List Nat} {N : Nodes} {P : Pool} {cs : List Comp} {a : Nat} {s : Value} {l : List UInt8} (hA : All (poolC P :: blkC g (bookL n lv ps) 70 :: cs) w) (hT : Tr P ps N) (hlv : lv ≤ 64) (hk : num < lv) (hO : ∀ j, 1 ≤ j → j < lv → Ord N j) (hs : Reads w s l) (hl : l.length ≤ 2304) :
    Calls Try.prog 37 #[.pointer (some ⟨g, 0, none⟩), .int .i64 (num : Int), .int .i64 (a : Int), s] w fun e w' => (∃ v, e = .returned v) ∧ SetIs P g n lv cs N num a l w' := by
  have C := hid (Clone_any hs.drew (by omega))
  obtain ⟨ao, c, rfl⟩ := hs.form
  have F : ∀ (w2 : World) (v : Value), w2.ownsRow w.drew.heap.size 5 1 v l.length (cellsB l) → Below w.drew.heap.size w.drew w2 → ∃ ao n' c', v = .slice ao n' c' ∧ Calls Try.prog 53 #[.pointer (some ⟨g, 1, none⟩), .int .i64 (num : Int), .agg #[.int .i64 (a : Int), .slice ao n' c']] w2 fun e w' => (∃ v, e = .returned v) ∧ SetIs P g n lv cs N num a l w' := by
    intro w2 v ho hb
    obtain ⟨ao, c', rfl⟩ := owns_form ho
    obtain ⟨Q, hQ, hD, hS⟩ := hA.drew.poolRow ho hb
    refine ⟨_, _, _, rfl, (setLeaf_all (pre := [.int .i64 (n : Int)]) hQ (hT.mono hS) hlv hk hD hO).mono ?_⟩
    rintro e w' ⟨he, Q', qs, M, h1, h2, h3, h4⟩
    exact ⟨he, _, Q', qs, M, h1, h2, fun x hx => h3 x (hS x hx), h4⟩
  have F := hid F
  clear hA hT hlv hk hO hs hl
  generalize l.length = ll at *
  go_enter Try.func37, Try.ntmps37
  go_region_law (go_simp; first | (go_at_call 44; refine C.out.mono ?_; rintro e w2 ⟨v, rfl, ho, hb⟩; obtain ⟨a2, n2, c2, rfl, hF⟩ := F.out _ _ ho hb; clear ho hb) | (go_at_call 53; refine hF.mono ?_; rintro e w3 ⟨⟨v3, rfl⟩, h3⟩))
  go_end0
  exact ⟨⟨_, rfl⟩, h3⟩

/-- The greatest stamp of some sheets. -/
def mx (S : Nat → Nat × List UInt8) (from_ : Nat) : Nat → Nat
  | 0 => 0
  | c + 1 => max (mx S from_ c) (S (from_ + c)).1

theorem mx_add (S : Nat → Nat × List UInt8) (f a : Nat) : ∀ b, mx S f (a + b) = max (mx S f a) (mx S (f + a) b)
  | 0 => by simp [mx]
  | b + 1 => by rw [Nat.add_succ, mx, mx_add S f a b, mx, Nat.add_assoc, Nat.max_assoc]

theorem mx_le (S : Nat → Nat × List UInt8) (f : Nat) {i : Nat} : ∀ {c}, i < c → (S (f + i)).1 ≤ mx S f c
  | c + 1, h => by
    rw [mx]
    by_cases e : i = c
    · subst e; omega
    · have := mx_le S f (c := c) (i := i) (by omega); omega
theorem mx_ex (S : Nat → Nat × List UInt8) (f : Nat) : ∀ c, mx S f c = 0 ∨ ∃ i, i < c ∧ (S (f + i)).1 = mx S f c
  | 0 => Or.inl rfl
  | c + 1 => by
    rw [mx]
    by_cases h : (S (f + c)).1 ≤ mx S f c
    · rw [Nat.max_eq_left h]
      rcases mx_ex S f c with e | ⟨i, hi, e⟩
      · exact Or.inl e
      · exact Or.inr ⟨i, by omega, e⟩
    · exact Or.inr ⟨c, by omega, by omega⟩
theorem mx_gt {S : Nat → Nat × List UInt8} {f c x : Nat} (h : x < mx S f c) : ∃ i, i < c ∧ x < (S (f + i)).1 := by
  rcases mx_ex S f c with e | ⟨i, hi, e⟩
  · omega
  · exact ⟨i, hi, by omega⟩
theorem mx_of_le {S : Nat → Nat × List UInt8} {f x : Nat} : ∀ {c}, (∀ i, i < c → (S (f + i)).1 ≤ x) → mx S f c ≤ x
  | 0, _ => by simp [mx]
  | c + 1, h => by
    rw [mx]
    have := mx_of_le (c := c) (fun i hi => h i (by omega))
    have := h c (by omega)
    omega

/-- A book, and what it has. -/
structure Bk (P : Pool) (n lv : Nat) (ps : List Nat) (N : Nodes) (S : Nat → Nat × List UInt8) : Prop where
  tr : Tr P ps N
  ord : ∀ j, 1 ≤ j → j < lv → Ord N j
  pow : ∃ h, h ≤ 6 ∧ lv = 2 ^ h
  n1 : 1 ≤ n
  nlv : n ≤ lv
  lvn : lv < 2 * n
  sh : ∀ i, i < lv → ((N (lv + i)).1, (N (lv + i)).2.2) = S i
  zero : ∀ i, n ≤ i → S i = (0, [])
  cap : ∀ i, (S i).1 ≤ 1099511627776 ∧ (S i).2.length ≤ 2304

theorem Bk.lv64 {P : Pool} {n lv : Nat} {ps : List Nat} {N : Nodes} {S : Nat → Nat × List UInt8} (h : Bk P n lv ps N S) : lv ≤ 64 := by
  obtain ⟨e, he, rfl⟩ := h.pow
  calc 2 ^ e ≤ 2 ^ 6 := Nat.pow_le_pow_right (by omega) he
    _ = 64 := rfl

theorem Bk.mono {P Q : Pool} {n lv : Nat} {ps : List Nat} {N : Nodes} {S : Nat → Nat × List UInt8} (h : Bk P n lv ps N S) (hs : ∀ x ∈ P, x ∈ Q) : Bk Q n lv ps N S :=
  ⟨h.tr.mono hs, h.ord, h.pow, h.n1, h.nlv, h.lvn, h.sh, h.zero, h.cap⟩

/-- A node has the greatest stamp of the leaves below it. -/
theorem Bk.at {P : Pool} {n h : Nat} {ps : List Nat} {N : Nodes} {S : Nat → Nat × List UInt8} (hB : Bk P n (2 ^ h) ps N S) : ∀ e d q, d + e = h → q < 2 ^ d → (N (2 ^ d + q)).1 = mx S (q * 2 ^ e) (2 ^ e)
  | 0, d, q, hd, hq => by
    have hd : d = h := by omega
    subst hd
    have := hB.sh q hq
    simp [mx, ← this]
  | e + 1, d, q, hd, hq => by
    have h2 : 2 ^ d < 2 ^ h := Nat.pow_lt_pow_right (by omega) (by omega)
    have h3 : 2 ^ (d + 1) ≤ 2 ^ h := Nat.pow_le_pow_right (by omega) (by omega)
    have h4 : 2 ^ (d + 1) = 2 * 2 ^ d := by rw [Nat.pow_succ]; omega
    have hp : 0 < 2 ^ d := Nat.pow_pos (by omega)
    have ho := hB.ord (2 ^ d + q) (by omega) (by omega)
    have c1 := Bk.at hB e (d + 1) (2 * q) (by omega) (by omega)
    have c2 := Bk.at hB e (d + 1) (2 * q + 1) (by omega) (by omega)
    rw [h4] at c1 c2
    have e1 : 2 * (2 ^ d + q) = 2 * 2 ^ d + 2 * q := by omega
    have e2 : 2 * (2 ^ d + q) + 1 = 2 * 2 ^ d + (2 * q + 1) := by omega
    unfold Ord at ho
    rw [ho, e2, e1, c1, c2]
    have h5 : 2 ^ (e + 1) = 2 ^ e + 2 ^ e := by rw [Nat.pow_succ]; omega
    have h6 : q * 2 ^ (e + 1) = 2 * q * 2 ^ e := by rw [Nat.pow_succ, Nat.mul_comm (2 ^ e) 2, ← Nat.mul_assoc, Nat.mul_comm q 2]
    have h7 : (2 * q + 1) * 2 ^ e = 2 * q * 2 ^ e + 2 ^ e := by rw [Nat.add_mul, Nat.one_mul]
    rw [h6, h5, mx_add, h7]

/-- The greatest of all stamps. -/
def lastS (S : Nat → Nat × List UInt8) (n : Nat) : Nat := mx S 0 n

theorem Bk.last {P : Pool} {n lv : Nat} {ps : List Nat} {N : Nodes} {S : Nat → Nat × List UInt8} (hB : Bk P n lv ps N S) : (N 1).1 = lastS S n := by
  obtain ⟨h, hh, rfl⟩ := hB.pow
  have := hB.at h 0 0 (by omega) (by simp)
  simp only [Nat.pow_zero, Nat.add_zero, Nat.zero_mul] at this
  rw [this]
  have hn := hB.nlv
  unfold lastS
  rw [show 2 ^ h = n + (2 ^ h - n) by omega, mx_add]
  have : mx S (0 + n) (2 ^ h - n) ≤ 0 := mx_of_le (fun i hi => by rw [hB.zero (0 + n + i) (by omega)]; simp)
  omega

end Go.Proofs.Ytaomhahmpbfjhaa
