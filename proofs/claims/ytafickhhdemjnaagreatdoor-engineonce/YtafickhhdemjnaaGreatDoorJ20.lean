import Derived.Test.YtafickhhdemjnaaGreatDoorJ1
import Derived.Test.YtafickhhdemjnaaGreatDoorKSet
import Derived.Test.YtafickhhdemjnaaGreatDoorJ19
namespace Go.Proofs.YtafickhhdemjnaaGreatDoor
open Go.RowKit Go.Sort
set_option linter.unusedVariables false

/-- A book in memory. -/
def bookL (n lv : Nat) (ps : List Nat) : List Value := treeL [.int .i64 (n : Int)] lv ps

/-- What a book has become. -/
def BookIs (P : Pool) (g n lv : Nat) (cs : List Comp) (N0 : Nodes) (w : World) : Prop := Became P g [.int .i64 (n : Int)] lv 180 cs N0 w

/-- A book with one sheet set. -/
def SetIs (P : Pool) (g n lv : Nat) (cs : List Comp) (N : Nodes) (num a : Nat) (l : List UInt8) (w : World) : Prop := ∃ v, BookIs P g n lv cs (upd N (lv + num) (a, v, l)) w

set_option maxHeartbeats 4000000 in
theorem set_all {w : World} {g num lv n : Nat} {ps : List Nat} {N : Nodes} {P : Pool} {cs : List Comp} {a : Nat} {s : Value} {l : List UInt8} (hA : All (poolC P :: blkC g (bookL n lv ps) 180 :: cs) w) (hT : Tr P ps N) (hlv : lv ≤ 64) (hk : num < lv) (hO : ∀ j, 1 ≤ j → j < lv → Ord N j) (hs : ReadsS6 w s l) (hl : l.length ≤ 2304) :
    Calls Tryz.prog 128 #[.pointer (some ⟨g, 0, none⟩), .int .i64 (num : Int), .int .i64 (a : Int), s] w fun e w' => (∃ v, e = .returned v) ∧ SetIs P g n lv cs N num a l w' := by
  have C := hid (Clone_any hs.drew (by omega))
  obtain ⟨ao, c, rfl⟩ := hs.form
  have F : ∀ (w2 : World) (v : Value), w2.ownsRow w.drew.heap.size 5 1 v l.length (cellsB l) → Below w.drew.heap.size w.drew w2 → ∃ ao n' c', v = .slice ao n' c' ∧ Calls Tryz.prog 170 #[.pointer (some ⟨g, 1, none⟩), .int .i64 (num : Int), .agg #[.int .i64 (a : Int), .slice ao n' c']] w2 fun e w' => (∃ v, e = .returned v) ∧ SetIs P g n lv cs N num a l w' := by
    intro w2 v ho hb
    obtain ⟨ao, c', rfl⟩ := owns_form ho
    obtain ⟨Q, hQ, hD, hS⟩ := hA.drew.poolRow ho hb
    refine ⟨_, _, _, rfl, (setLeaf_all (pre := [.int .i64 (n : Int)]) hQ (hT.mono hS) hlv hk hD hO).mono ?_⟩
    rintro e w' ⟨he, Q', qs, M, h1, h2, h3, h4⟩
    exact ⟨he, _, Q', qs, M, h1, h2, fun x hx => h3 x (hS x hx), h4⟩
  have F := hid F
  clear hA hT hlv hk hO hs hl
  generalize l.length = ll at *
  go_enter Tryz.func128, Tryz.ntmps128
  go_region_law (go_simp; first | (go_at_call 115; refine C.out.mono ?_; rintro e w2 ⟨v, rfl, ho, hb⟩; obtain ⟨a2, n2, c2, rfl, hF⟩ := F.out _ _ ho hb; clear ho hb) | (go_at_call 170; refine hF.mono ?_; rintro e w3 ⟨⟨v3, rfl⟩, h3⟩))
  go_end0
  exact ⟨⟨_, rfl⟩, h3⟩

/-- The greatest stamp of some sheets. -/
def mx (S : Nat → Nat × List UInt8) (from_ : Nat) : Nat → Nat
  | 0 => 0
  | c + 1 => max (mx S from_ c) (S (from_ + c)).1

theorem mx_add (S : Nat → Nat × List UInt8) (f a : Nat) : ∀ b, mx S f (a + b) = max (mx S f a) (mx S (f + a) b)
  | 0 => by simp [mx]
  | b + 1 => by rw [Nat.add_succ, mx, mx_add S f a b, mx, Nat.add_assoc, Nat.max_assoc]

theorem mx_le (S : Nat → Nat × List UInt8) (f : Nat) {i : Nat} : ∀ {c}, i < c → (S (f + i)).1 ≤ mx S f c
  | c + 1, h => by
    rw [mx]
    by_cases e : i = c
    · subst e; omega
    · have := mx_le S f (c := c) (i := i) (by omega); omega
theorem mx_ex (S : Nat → Nat × List UInt8) (f : Nat) : ∀ c, mx S f c = 0 ∨ ∃ i, i < c ∧ (S (f + i)).1 = mx S f c
  | 0 => Or.inl rfl
  | c + 1 => by
    rw [mx]
    by_cases h : (S (f + c)).1 ≤ mx S f c
    · rw [Nat.max_eq_left h]
      rcases mx_ex S f c with e | ⟨i, hi, e⟩
      · exact Or.inl e
      · exact Or.inr ⟨i, by omega, e⟩
    · exact Or.inr ⟨c, by omega, by omega⟩
theorem mx_gt {S : Nat → Nat × List UInt8} {f c x : Nat} (h : x < mx S f c) : ∃ i, i < c ∧ x < (S (f + i)).1 := by
  rcases mx_ex S f c with e | ⟨i, hi, e⟩
  · omega
  · exact ⟨i, hi, by omega⟩
theorem mx_of_le {S : Nat → Nat × List UInt8} {f x : Nat} : ∀ {c}, (∀ i, i < c → (S (f + i)).1 ≤ x) → mx S f c ≤ x
  | 0, _ => by simp [mx]
  | c + 1, h => by
    rw [mx]
    have := mx_of_le (c := c) (fun i hi => h i (by omega))
    have := h c (by omega)
    omega

/-- A book, and what it has. -/
structure Bk (P : Pool) (n lv : Nat) (ps : List Nat) (N : Nodes) (S : Nat → Nat × List UInt8) : Prop where
  tr : Tr P ps N
  ord : ∀ j, 1 ≤ j → j < lv → Ord N j
  pow : ∃ h, h ≤ 6 ∧ lv = 2 ^ h
  n1 : 1 ≤ n
  nlv : n ≤ lv
  lvn : lv < 2 * n
  sh : ∀ i, i < lv → ((N (lv + i)).1, (N (lv + i)).2.2) = S i
  zero : ∀ i, n ≤ i → S i = (0, [])
  cap : ∀ i, (S i).1 ≤ 1099511627776 ∧ (S i).2.length ≤ 2304

theorem Bk.lv64 {P : Pool} {n lv : Nat} {ps : List Nat} {N : Nodes} {S : Nat → Nat × List UInt8} (h : Bk P n lv ps N S) : lv ≤ 64 := by
  obtain ⟨e, he, rfl⟩ := h.pow
  calc 2 ^ e ≤ 2 ^ 6 := Nat.pow_le_pow_right (by omega) he
    _ = 64 := rfl

theorem Bk.mono {P Q : Pool} {n lv : Nat} {ps : List Nat} {N : Nodes} {S : Nat → Nat × List UInt8} (h : Bk P n lv ps N S) (hs : ∀ x ∈ P, x ∈ Q) : Bk Q n lv ps N S :=
  ⟨h.tr.mono hs, h.ord, h.pow, h.n1, h.nlv, h.lvn, h.sh, h.zero, h.cap⟩

/-- A node has the greatest stamp of the leaves below it. -/
theorem Bk.at {P : Pool} {n h : Nat} {ps : List Nat} {N : Nodes} {S : Nat → Nat × List UInt8} (hB : Bk P n (2 ^ h) ps N S) : ∀ e d q, d + e = h → q < 2 ^ d → (N (2 ^ d + q)).1 = mx S (q * 2 ^ e) (2 ^ e)
  | 0, d, q, hd, hq => by
    have hd : d = h := by omega
    subst hd
    have := hB.sh q hq
    simp [mx, ← this]
  | e + 1, d, q, hd, hq => by
    have h2 : 2 ^ d < 2 ^ h := Nat.pow_lt_pow_right (by omega) (by omega)
    have h3 : 2 ^ (d + 1) ≤ 2 ^ h := Nat.pow_le_pow_right (by omega) (by omega)
    have h4 : 2 ^ (d + 1) = 2 * 2 ^ d := by rw [Nat.pow_succ]; omega
    have hp : 0 < 2 ^ d := Nat.pow_pos (by omega)
    have ho := hB.ord (2 ^ d + q) (by omega) (by omega)
    have c1 := Bk.at hB e (d + 1) (2 * q) (by omega) (by omega)
    have c2 := Bk.at hB e (d + 1) (2 * q + 1) (by omega) (by omega)
    rw [h4] at c1 c2
    have e1 : 2 * (2 ^ d + q) = 2 * 2 ^ d + 2 * q := by omega
    have e2 : 2 * (2 ^ d + q) + 1 = 2 * 2 ^ d + (2 * q + 1) := by omega
    unfold Ord at ho
    rw [ho, e2, e1, c1, c2]
    have h5 : 2 ^ (e + 1) = 2 ^ e + 2 ^ e := by rw [Nat.pow_succ]; omega
    have h6 : q * 2 ^ (e + 1) = 2 * q * 2 ^ e := by rw [Nat.pow_succ, Nat.mul_comm (2 ^ e) 2, ← Nat.mul_assoc, Nat.mul_comm q 2]
    have h7 : (2 * q + 1) * 2 ^ e = 2 * q * 2 ^ e + 2 ^ e := by rw [Nat.add_mul, Nat.one_mul]
    rw [h6, h5, mx_add, h7]

/-- The greatest of all stamps. -/
def lastS (S : Nat → Nat × List UInt8) (n : Nat) : Nat := mx S 0 n

theorem Bk.last {P : Pool} {n lv : Nat} {ps : List Nat} {N : Nodes} {S : Nat → Nat × List UInt8} (hB : Bk P n lv ps N S) : (N 1).1 = lastS S n := by
  obtain ⟨h, hh, rfl⟩ := hB.pow
  have := hB.at h 0 0 (by omega) (by simp)
  simp only [Nat.pow_zero, Nat.add_zero, Nat.zero_mul] at this
  rw [this]
  have hn := hB.nlv
  unfold lastS
  rw [show 2 ^ h = n + (2 ^ h - n) by omega, mx_add]
  have : mx S (0 + n) (2 ^ h - n) ≤ 0 := mx_of_le (fun i hi => by rw [hB.zero (0 + n + i) (by omega)]; simp)
  omega

end Go.Proofs.YtafickhhdemjnaaGreatDoor

namespace Go.Proofs.YtafickhhdemjnaaGreatDoor
open Go.RowKit Go.Sort
set_option linter.unusedVariables false

abbrev Sheets := Nat → Nat × List UInt8

/-- What Put answers. -/
def putE (n : Nat) (S : Sheets) (num at_ : Int) (l : List UInt8) : Int :=
  if ¬ (0 ≤ num ∧ num < n) then 61 else if ¬ (1 ≤ at_ ∧ at_ ≤ 1099511627776) ∨ at_ < lastS S n then 62 else if 2304 < l.length then 63 else 0

/-- One sheet is another. -/
def setS (S : Sheets) (i : Nat) (x : Nat × List UInt8) : Sheets := fun j => if j = i then x else S j

/-- What there is behind it. -/
def putS (n : Nat) (S : Sheets) (num at_ : Int) (l : List UInt8) : Sheets :=
  if putE n S num at_ l = 0 ∧ (S num.toNat).2 ≠ l then setS S num.toNat (at_.toNat, l) else S

/-- A book lies here and has these sheets; the pool has grown. -/
def Has (P : Pool) (g n : Nat) (cs : List Comp) (S : Sheets) (w : World) : Prop :=
  ∃ Q lv ps N, All (poolC Q :: blkC g (bookL n lv ps) 180 :: cs) w ∧ Bk Q n lv ps N S ∧ ∀ x ∈ P, x ∈ Q

theorem Bk.set {P Q : Pool} {n lv : Nat} {ps qs : List Nat} {N M : Nodes} {S : Sheets} (h : Bk P n lv ps N S) {num a : Nat} {v : Value} {l : List UInt8} (hn : num < n) (ha : a ≤ 1099511627776) (hl : l.length ≤ 2304) (hT : Tr Q qs M) (hO : ∀ j, 1 ≤ j → j < lv → Ord M j) (hM : ∀ j, lv ≤ j → M j = upd N (lv + num) (a, v, l) j) : Bk Q n lv qs M (setS S num (a, l)) := by
  have hlv := h.nlv
  refine ⟨hT, hO, h.pow, h.n1, h.nlv, h.lvn, fun i hi => ?_, fun i hi => ?_, fun i => ?_⟩
  · rw [hM (lv + i) (by omega)]
    unfold upd setS
    by_cases e : i = num
    · subst e; simp
    · rw [if_neg (by omega), if_neg e]; exact h.sh i hi
  · unfold setS
    rw [if_neg (by omega)]; exact h.zero i hi
  · unfold setS
    split
    · exact ⟨ha, hl⟩
    · exact h.cap i

theorem SetIs.has {P : Pool} {g n lv : Nat} {cs : List Comp} {ps : List Nat} {N : Nodes} {S : Sheets} {num a : Nat} {l : List UInt8} {w : World} (h : SetIs P g n lv cs N num a l w) (hB : Bk P n lv ps N S) (hn : num < n) (ha : a ≤ 1099511627776) (hl : l.length ≤ 2304) : Has P g n cs (setS S num (a, l)) w := by
  obtain ⟨v, Q, qs, M, hA, hT, hS, hO, hM⟩ := h
  exact ⟨Q, lv, qs, M, hA, hB.set hn ha hl hT hO hM, hS⟩

set_option maxHeartbeats 4000000 in
theorem Put_all {w : World} {g n lv : Nat} {ps : List Nat} {N : Nodes} {P : Pool} {cs : List Comp} {S : Sheets} {num at_ : Int} {s : Value} {l : List UInt8} (hA : All (poolC P :: blkC g (bookL n lv ps) 180 :: cs) w) (hB : Bk P n lv ps N S) (hs : ReadsS6 w s l) :
    Calls Tryz.prog 123 #[.pointer (some ⟨g, 0, none⟩), .int .i64 num, .int .i64 at_, s] w fun e w' => e = .returned (.int .i64 (putE n S num at_ l)) ∧ Has P g n cs (putS n S num at_ l) w' := by
  have hg : w.heap[g]? = some (.cells (treeL [.int .i64 (n : Int)] lv ps).toArray 180 (0, 0)) := hA.blk (by simp [bookL])
  have V := hB.tr.view (fun x hx => hA.poolIn hx) hg
  have same : Has P g n cs S w := ⟨P, lv, ps, N, hA, hB, fun x hx => hx⟩
  have hn : w.cell? ⟨g, 0, none⟩ = some (.int .i64 (n : Int)) := by rw [cell_at hg]; rfl
  have h1 := hid (has_anyS6 num hn)
  have h2 := hid (isStamp_any (w := w) at_)
  obtain ⟨ao, c, rfl⟩ := hs.form
  by_cases c1 : ¬ (0 ≤ num ∧ num < n)
  · have E : putE n S num at_ l = 61 := by simp only [putE, if_pos c1]
    have F : putS n S num at_ l = S := by simp only [putS, E]; rfl
    rw [E, F]
    have d1 : decide (0 ≤ num ∧ num < (n : Int)) = false := by simpa using c1
    rw [d1] at h1
    have same := hid same
    clear hA hB hs hg V hn c1 d1 E F
    generalize l.length = ll at *
    go_enter Tryz.func123, Tryz.ntmps123
    go_wp2_with (go_at_call 157; refine h1.out.mono ?_; rintro e w' ⟨rfl, rfl⟩)
    go_ret
    exact ⟨rfl, same.out⟩
  have c1 := Classical.not_not.1 c1
  have d1 : decide (0 ≤ num ∧ num < (n : Int)) = true := by simpa using c1
  rw [d1] at h1
  obtain ⟨m, rfl⟩ : ∃ m : Nat, num = m := ⟨num.toNat, by omega⟩
  have hm : m < n := by omega
  by_cases c2 : ¬ (1 ≤ at_ ∧ at_ ≤ 1099511627776)
  · have E : putE n S m at_ l = 62 := by simp only [putE, if_neg (show ¬ ¬ (0 ≤ (m : Int) ∧ (m : Int) < n) from fun h => h c1), if_pos (show ¬ (1 ≤ at_ ∧ at_ ≤ 1099511627776) ∨ at_ < lastS S n from Or.inl c2)]
    have F : putS n S m at_ l = S := by simp only [putS, E]; rfl
    rw [E, F]
    have d2 : decide (1 ≤ at_ ∧ at_ ≤ 1099511627776) = false := by simpa using c2
    rw [d2] at h2
    have same := hid same
    clear hA hB hs hg V hn c1 d1 E F d2 c2 hm
    generalize l.length = ll at *
    go_enter Tryz.func123, Tryz.ntmps123
    go_wp2_with (first | (go_at_call 157; refine h1.out.mono ?_; rintro e w' ⟨rfl, rfl⟩) | (go_at_call 158; refine h2.out.mono ?_; rintro e w' ⟨rfl, rfl⟩))
    go_ret
    exact ⟨rfl, same.out⟩
  have c2 := Classical.not_not.1 c2
  have d2 : decide (1 ≤ at_ ∧ at_ ≤ 1099511627776) = true := by simpa using c2
  rw [d2] at h2
  obtain ⟨a, rfl⟩ : ∃ a : Nat, at_ = a := ⟨at_.toNat, by omega⟩
  obtain ⟨p, k1, k2, _, _⟩ := V.node 1 (by omega)
  have hL := hB.last
  rw [hL] at k2
  have h3 := hid (Last_any (g := g) (p := p) (x := lastS S n) k1 k2)
  by_cases c3 : (a : Int) < (lastS S n : Int)
  · have E : putE n S m a l = 62 := by simp only [putE, if_neg (show ¬ ¬ (0 ≤ (m : Int) ∧ (m : Int) < n) from fun h => h c1), if_pos (show ¬ (1 ≤ (a : Int) ∧ (a : Int) ≤ 1099511627776) ∨ (a : Int) < lastS S n from Or.inr c3)]
    have F : putS n S m a l = S := by simp only [putS, E]; rfl
    rw [E, F]
    have d3 : decide ((a : Int) < (lastS S n : Int)) = true := by simpa using c3
    have same := hid same
    generalize lastS S n = la at *
    clear hA hB hs hg V hn c1 d1 E F d2 c2 hm k1 k2 hL
    generalize l.length = ll at *
    go_enter Tryz.func123, Tryz.ntmps123
    go_wp2_with (first | (go_at_call 157; refine h1.out.mono ?_; rintro e w' ⟨rfl, rfl⟩) | (go_at_call 158; refine h2.out.mono ?_; rintro e w' ⟨rfl, rfl⟩) | (go_at_call 159; refine h3.out.mono ?_; rintro e w' ⟨rfl, rfl⟩))
    go_ret
    exact ⟨rfl, same.out⟩
  have n62 : ¬ (¬ (1 ≤ (a : Int) ∧ (a : Int) ≤ 1099511627776) ∨ (a : Int) < lastS S n) := by
    rintro (h | h)
    · exact h c2
    · exact c3 h
  have d3 : decide ((a : Int) < (lastS S n : Int)) = false := by simpa using c3
  by_cases c4 : 2304 < l.length
  · have E : putE n S m a l = 63 := by simp only [putE, if_neg (show ¬ ¬ (0 ≤ (m : Int) ∧ (m : Int) < n) from fun h => h c1), if_neg n62, if_pos c4]
    have F : putS n S m a l = S := by simp only [putS, E]; rfl
    rw [E, F]
    have c4 : (2304 : Int) < (l.length : Int) := by omega
    have same := hid same
    generalize lastS S n = la at *
    clear hA hB hs hg V hn c1 d1 E F d2 c2 hm k1 k2 hL n62
    generalize l.length = ll at *
    go_enter Tryz.func123, Tryz.ntmps123
    go_wp2_with (first | (go_at_call 157; refine h1.out.mono ?_; rintro e w' ⟨rfl, rfl⟩) | (go_at_call 158; refine h2.out.mono ?_; rintro e w' ⟨rfl, rfl⟩) | (go_at_call 159; refine h3.out.mono ?_; rintro e w' ⟨rfl, rfl⟩))
    go_ret
    exact ⟨rfl, same.out⟩
  have E : putE n S m a l = 0 := by simp only [putE, if_neg (show ¬ ¬ (0 ≤ (m : Int) ∧ (m : Int) < n) from fun h => h c1), if_neg n62, if_neg c4]
  have hlv := hB.lv64
  have hnl := hB.nlv
  obtain ⟨q, q1, q2, q3, q4⟩ := V.node (lv + m) (by omega)
  have h4 := hid (leaf_any (g := g) (o := 1) (k := m) (p := q) (by omega) V.leaves q1)
  have hsh := hB.sh m (by omega)
  have h5 := hid (Equal_any q4 hs)
  have e5 : (N (lv + m)).2.2 = (S m).2 := by rw [← hsh]
  rw [e5] at h5
  have c4i : ¬ (2304 : Int) < (l.length : Int) := by omega
  obtain ⟨b1, b2, b3, hb⟩ : ∃ b1 b2 b3, (N (lv + m)).2.1 = .slice b1 b2 b3 := by
    obtain ⟨b1, b3, hb⟩ := q4.form
    exact ⟨_, _, _, hb⟩
  rw [hb] at q3 h5
  by_cases c5 : (S m).2 = l
  · have F : putS n S m a l = S := by simp only [putS, E]; rw [if_neg]; rintro ⟨_, h⟩; exact h (by simpa using c5)
    rw [E, F]
    have d5 : decide ((S m).2 = l) = true := by simpa using c5
    rw [d5] at h5
    have same := hid same
    generalize lastS S n = la at *
    generalize (lv + m) % 8 * 2 = r at *
    clear hA hB hs hg V hn c1 d1 E F d2 c2 hm k1 k2 hL n62 hsh e5 q1 q2 q4 hb c5 d5 hlv hnl c4
    generalize l.length = ll at *
    go_enter Tryz.func123, Tryz.ntmps123
    go_wp2_with (first | (go_at_call 157; refine h1.out.mono ?_; rintro e w' ⟨rfl, rfl⟩) | (go_at_call 158; refine h2.out.mono ?_; rintro e w' ⟨rfl, rfl⟩) | (go_at_call 159; refine h3.out.mono ?_; rintro e w' ⟨rfl, rfl⟩) | (go_at_call 161; refine h4.out.mono ?_; rintro e w' ⟨rfl, rfl⟩) | (go_at_call 160; refine h5.out.mono ?_; rintro e w' ⟨rfl, rfl⟩))
    go_ret
    exact ⟨rfl, same.out⟩
  · have F : putS n S m a l = setS S m (a, l) := by simp only [putS, E]; rw [if_pos ⟨trivial, by simpa using c5⟩]; simp
    rw [E, F]
    have d5 : decide ((S m).2 = l) = false := by simpa using c5
    rw [d5] at h5
    have h6 := hid ((set_all (num := m) (a := a) hA hB.tr hlv (by omega) hB.ord hs (by omega)).mono (fun e w' (h : _ ∧ _) => (⟨h.1, h.2.has hB hm (by omega) (by omega)⟩ : _ ∧ Has P g n cs (setS S m (a, l)) w')))
    generalize setS S m (a, l) = S2 at *
    generalize lastS S n = la at *
    generalize (lv + m) % 8 * 2 = r at *
    clear same hA hB hs hg V hn c1 d1 E F d2 c2 hm k1 k2 hL n62 hsh e5 q1 q2 q4 hb c5 d5 hlv hnl c4
    generalize l.length = ll at *
    go_enter Tryz.func123, Tryz.ntmps123
    go_wp2_with (first | (go_at_call 157; refine h1.out.mono ?_; rintro e w' ⟨rfl, rfl⟩) | (go_at_call 158; refine h2.out.mono ?_; rintro e w' ⟨rfl, rfl⟩) | (go_at_call 159; refine h3.out.mono ?_; rintro e w' ⟨rfl, rfl⟩) | (go_at_call 161; refine h4.out.mono ?_; rintro e w' ⟨rfl, rfl⟩) | (go_at_call 160; refine h5.out.mono ?_; rintro e w' ⟨rfl, rfl⟩) | (go_at_call 128; refine h6.out.mono ?_; rintro e w2 ⟨⟨v2, rfl⟩, hh⟩))
    go_ret
    exact ⟨rfl, hh⟩

end Go.Proofs.YtafickhhdemjnaaGreatDoor

namespace Go.Proofs.YtafickhhdemjnaaGreatDoor
open Go.RowKit Go.Sort
set_option linter.unusedVariables false

/-- A tree under way: so many of its pieces are there. -/
def midL (lv q i : Nat) : List Value := .int .i64 (lv : Int) :: (List.replicate i (ptr q) ++ List.replicate (16 - i) (.pointer none))
def blankL : List Value := [.int .i64 0, .slice none 0 0, .int .i64 0, .slice none 0 0, .int .i64 0, .slice none 0 0, .int .i64 0, .slice none 0 0, .int .i64 0, .slice none 0 0, .int .i64 0, .slice none 0 0, .int .i64 0, .slice none 0 0, .int .i64 0, .slice none 0 0]

theorem midL_at {lv q i : Nat} (h : i < 16) : (midL lv q i)[1 + i]? = some (.pointer none) := by
  unfold midL
  rw [Nat.add_comm 1 i, List.getElem?_cons_succ, List.getElem?_append_right (by simp)]
  rw [List.length_replicate, Nat.sub_self, List.getElem?_replicate, if_pos (by omega)]
theorem midL_set {lv q i : Nat} (h : i < 16) : (midL lv q i).set (1 + i) (.pointer (some ⟨q, 0, none⟩)) = midL lv q (i + 1) := by
  unfold midL
  rw [Nat.add_comm 1 i, List.set_cons_succ, List.set_append_right _ _ (by simp)]
  congr 1
  rw [List.length_replicate, Nat.sub_self, show 16 - i = (16 - (i + 1)) + 1 by omega, List.replicate_succ, List.set_cons_zero, List.replicate_succ' (n := i)]
  simp [ptr]

/-- While a tree is made: how many leaves it has so far. -/
def Half (w : World) (cs : List Comp) (n : Nat) (i : Nat) (lv : Nat) (wr : World) : Prop :=
  (∃ h, h ≤ 6 ∧ lv = 2 ^ h) ∧ lv < 2 * n ∧ All (blkC (w.heap.size + 1) (midL lv 0 0) 177 :: blkC w.heap.size (midL 0 0 0) 177 :: cs) wr

def Later2 (w : World) (cs : List Comp) (n lv q : Nat) (i : Nat) (wr : World) : Prop :=
  n ≤ lv ∧ All (blkC (w.heap.size + 1) (midL lv q i) 177 :: blkC q blankL 222 :: blkC w.heap.size (midL 0 0 0) 177 :: cs) wr

theorem pow_lt7 {h : Nat} (h1 : 2 ^ h < 64) : h < 6 := by
  rcases Nat.lt_or_ge h 6 with e | e
  · exact e
  · have : 2 ^ 6 ≤ 2 ^ h := Nat.pow_le_pow_right (by omega) e
    omega

set_option maxRecDepth 100000 in
set_option maxHeartbeats 4000000 in
theorem newTree_all {w : World} {cs : List Comp} {n : Nat} (hA : All cs w) (h1 : 1 ≤ n) (h2 : n ≤ 64) :
    Calls Tryz.prog 109 #[.int .i64 (n : Int)] w fun e w' => ∃ lv q, e = .returned (.agg ((treeL [] lv (List.replicate 16 q)).toArray)) ∧ (∃ h, h ≤ 6 ∧ lv = 2 ^ h) ∧ n ≤ lv ∧ lv < 2 * n ∧ All (blkC q blankL 222 :: cs) w' := by
  have A2 := (hA.addBlk (midL 0 0 0) 177).addBlk (midL 1 0 0) 177
  have H0 : Hid (Half w cs n 0 1 ((w.alloc (.cells (midL 0 0 0).toArray 177)).alloc (.cells (midL 1 0 0).toArray 177))) := hid ⟨⟨0, by omega, rfl⟩, by omega, by simpa using A2⟩
  simp only [midL, List.replicate, List.nil_append, Nat.reduceSub] at H0
  clear A2
  have H1 := hid h1
  have H2 := hid h2
  clear h1 h2 hA
  go_enter Tryz.func109, Tryz.ntmps109
  go_wp2
  go_loopw [7, 8, 9, 10, 11, 12, 13, 14] (fun p7 p8 p9 p10 p11 p12 p13 p14 wr => ∃ lv : Nat, Hid (Half w cs n 0 lv wr))
    (fun _ _ _ _ _ _ _ _ wr => match wr.cell? ⟨w.heap.size + 1, 0, none⟩ with | some (.int _ i) => (200 - i).toNat | _ => 0)
  case atStart => exact ⟨1, H0⟩
  case round =>
    obtain ⟨lv, hH⟩ := hrel
    have hH' := hH.out
    obtain ⟨hp, hl, hA⟩ := hH'
    have hg : wr.heap[w.heap.size + 1]? = some (.cells (midL lv 0 0).toArray 177 (0, 0)) := hA.blk (by simp)
    have c0 : wr.cell? ⟨w.heap.size + 1, 0, none⟩ = some (.int .i64 (lv : Int)) := by rw [cell_at hg]; rfl
    have f0 : wr.frozen? ⟨w.heap.size + 1, 0, none⟩ = false := free_at hg 0
    by_cases hc : (lv : Int) < (n : Int)
    · have h64 : lv < 64 := by have := H2.out; omega
      obtain ⟨l2, e2⟩ : ∃ l2, Hid (l2 = 2 * lv) := ⟨_, hid rfl⟩
      have wl : IntKind.i64.wrap ((lv : Int) * 2) = (l2 : Int) := by rw [e2.out, IntKind.wrap_i64]; omega
      have HN : Hid (Half w cs n 0 l2 (wr.setCell ⟨w.heap.size + 1, 0, none⟩ (.int .i64 (l2 : Int)))) := hid (by
        rw [e2.out]
        obtain ⟨h, hh, rfl⟩ := hp
        refine ⟨⟨h + 1, by have := pow_lt7 h64; omega, by rw [Nat.pow_succ]; omega⟩, by omega, ?_⟩
        have := hA.setBlk 0 (.int .i64 ((2 * 2 ^ h : Nat) : Int))
        simpa [midL] using this)
      have ME : Hid ((wr.setCell ⟨w.heap.size + 1, 0, none⟩ (.int .i64 (l2 : Int))).cell? ⟨w.heap.size + 1, 0, none⟩ = some (.int .i64 (l2 : Int))) := hid (by rw [cell_at (heap_setCell_same hg _)]; simp [midL])
      have LT := hid (show l2 < 200 ∧ lv < l2 by rw [e2.out]; exact ⟨by omega, by obtain ⟨h, _, rfl⟩ := hp; have : 0 < 2 ^ h := Nat.pow_pos (by omega); omega⟩)
      clear hp hl hA hg hH H0 e2
      go_wp2
      go_roundw
      case rel => exact ⟨l2, HN⟩
      case measure => rw [ME.out, c0]; have := LT.out; simp only; omega
    · have A3 := hA.addBlk blankL 222
      have HL : Hid (Later2 w cs n lv wr.heap.size 0 (wr.alloc (.cells blankL.toArray 222))) := hid ⟨by omega, A3.swap⟩
      simp only [blankL] at HL
      have PO := hid (show (∃ h, h ≤ 6 ∧ lv = 2 ^ h) ∧ lv < 2 * n from ⟨hp, hl⟩)
      clear hA hg hH H0 hp hl A3
      go_wp2
      generalize wr.heap.size = q at HL ⊢
      clear c0 f0
      go_loopw [5, 16, 17, 18, 19, 20, 21, 22, 23] (fun p5 p16 p17 p18 p19 p20 p21 p22 p23 wb => ∃ i : Nat, p16 = .int .i64 i ∧ i ≤ 16 ∧ Hid (Later2 w cs n lv q i wb))
        (fun _ p16 _ _ _ _ _ _ _ _ => match p16 with | .int _ i => (16 - i).toNat | _ => 0)
      case atStart => exact ⟨0, rfl, by omega, HL⟩
      case round =>
        obtain ⟨i, rfl, hi, hLi⟩ := hrel
        have hA := hLi.out.2
        by_cases hc2 : (i : Int) < 16
        · have i16 : i < 16 := by omega
          have hg : wr.heap[w.heap.size + 1]? = some (.cells (midL lv q i).toArray 177 (0, 0)) := hA.blk (by simp)
          have c1 : wr.cell? ⟨w.heap.size + 1, 1 + i, none⟩ = some (.pointer none) := by rw [cell_at hg]; simpa using midL_at i16
          have f1 : wr.frozen? ⟨w.heap.size + 1, 1 + i, none⟩ = false := free_at hg _
          have wi : IntKind.i64.wrap ((i : Int) + 1) = ((i + 1 : Nat) : Int) := by rw [IntKind.wrap_i64]; omega
          have HN : Hid (Later2 w cs n lv q (i + 1) (wr.setCell ⟨w.heap.size + 1, 1 + i, none⟩ (.pointer (some ⟨q, 0, none⟩)))) := hid (by
            refine ⟨hLi.out.1, ?_⟩
            have := hA.setBlk (1 + i) (.pointer (some ⟨q, 0, none⟩))
            rw [midL_set i16] at this
            exact this)
          clear hA hg hLi HL
          go_wp2
          go_roundw
          case rel => exact ⟨i + 1, rfl, by omega, HN⟩
          case measure => simp only; omega
        · have i16 : i = 16 := by omega
          have hg : wr.heap[w.heap.size + 1]? = some (.cells (midL lv q i).toArray 177 (0, 0)) := hA.blk (by simp)
          have hr : wr.heap[w.heap.size]? = some (.cells (midL 0 0 0).toArray 177 (0, 0)) := hA.blk (by simp)
          rw [i16] at hg
          obtain ⟨C, hC⟩ : ∃ C, Hid (C = (midL lv q 16).toArray) := ⟨_, hid rfl⟩
          rw [← hC.out] at hg
          have hCs : C.size = 17 := by rw [hC.out]; rfl
          have hC1 : C.all (·.oneCell') = true := by rw [hC.out]; simp [midL, List.replicate, ptr, Value.oneCell']
          have hi67 : (Tryz.prog.info? 177).map (·.size) = some C.size := by rw [hCs]; kernel_rfl
          have hR := setRow_heap wr w.heap.size _ C 177 (0, 0) hr
          have hF : Fr [w.heap.size] wr (wr.setRow w.heap.size C) := ⟨rfl, rfl, rfl, by simp, fun k _ hk => setRow_other wr w.heap.size k _ (by simpa using hk)⟩
          have hP : All (blkC w.heap.size (midL 0 0 0) 177 :: blkC q blankL 222 :: cs) wr := hA.tail.swap
          have AF := hid (hP.2.2.kept hF hP.2.1)
          have HR := hid hR
          have NL := hid hLi.out.1
          have hold : (midL 0 0 0).toArray.size = C.size := by rw [hCs]; rfl
          have HH := hid (show _ ∧ _ ∧ _ ∧ _ ∧ _ from ⟨hg, hr, hi67, hold, hC1⟩)
          have hCs := hid hCs
          clear hP hF hR hC1 hg hr HL hLi hA i16 hc hi hi67 hold
          go_wp2_with (first | (refine wpList_load_row rfl 177 _ rfl (w.heap.size + 1) rfl 177 C (0, 0) _ HH.out.1 Tryz.underlying177 rfl HH.out.2.2.1 ?_) | (refine wpList_store_row rfl 177 _ _ rfl w.heap.size C rfl rfl 177 _ HH.out.2.1 HH.out.2.2.1 HH.out.2.2.2.1 HH.out.2.2.2.2 ?_))
          refine bodyPost_ret (v := .agg C) (results_cell_row (fn := Tryz.f109) rfl _ _ w.heap.size 177 C (0, 0) _ rfl HR.out Tryz.underlying177 rfl (by rw [hCs.out]; kernel_rfl)) rfl ?_
          refine ⟨lv, q, by rw [hC.out]; rfl, PO.out.1, NL.out, PO.out.2, AF.out⟩

/-- Nothing is written. -/
def noS : Sheets := fun _ => (0, [])
def noN : Nodes := fun _ => (0, .slice none 0 0, [])

theorem blank_tr {P : Pool} {q : Nat} (h : (q, Obj.cells blankL.toArray 222 (0, 0)) ∈ P) : Tr P (List.replicate 16 q) noN := by
  refine ⟨by simp, fun j p hj => ?_, fun k _ => Or.inl ⟨rfl, rfl⟩⟩
  rw [List.getElem?_replicate] at hj
  split at hj
  · cases hj
    refine ⟨blankL, h, rfl, fun i hi => ?_⟩
    obtain rfl | rfl | rfl | rfl | rfl | rfl | rfl | rfl : i = 0 ∨ i = 1 ∨ i = 2 ∨ i = 3 ∨ i = 4 ∨ i = 5 ∨ i = 6 ∨ i = 7 := by omega
    all_goals exact ⟨rfl, rfl⟩
  · cases hj

theorem blank_bk {P : Pool} {q n lv : Nat} (h : (q, Obj.cells blankL.toArray 222 (0, 0)) ∈ P) (hp : ∃ h, h ≤ 6 ∧ lv = 2 ^ h) (h1 : 1 ≤ n) (h2 : n ≤ lv) (h3 : lv < 2 * n) : Bk P n lv (List.replicate 16 q) noN noS :=
  ⟨blank_tr h, fun _ _ _ => rfl, hp, h1, h2, h3, fun _ _ => rfl, fun _ _ => rfl, fun _ => ⟨by simp [noS], by simp [noS]⟩⟩

set_option maxRecDepth 100000 in
set_option maxHeartbeats 4000000 in
theorem New_all {w : World} {cs : List Comp} {P : Pool} {n : Nat} (hA : All (poolC P :: cs) w) (h1 : 1 ≤ n) (h2 : n ≤ 64) :
    Calls Tryz.prog 76 #[.int .i64 (n : Int)] w fun e w' => ∃ g, e = .returned (.tuple #[.pointer (some ⟨g, 0, none⟩), .int .i64 0]) ∧ Has P g n cs noS w' := by
  have H := hid (newTree_all hA h1 h2)
  have d1 : decide ((n : Int) < 1) = false := by simp; omega
  have d2 : decide ((n : Int) > 64) = false := by simp; omega
  have h1 := hid h1
  clear h2 hA
  go_enter Tryz.func76, Tryz.ntmps76
  go_wp2_with (go_at_call 109; refine H.out.mono ?_; rintro e w2 ⟨lv, q, rfl, hp, hn, hl, A2⟩; simp only [treeL, List.nil_append, List.replicate, List.map, ptr]; have A2 := hid A2; have hp := hid hp; have hn := hid hn; have hl := hid hl)
  go_ret2
  refine ⟨_, rfl, ?_⟩
  have A3 := A2.out.poolTake.addBlk (bookL n lv (List.replicate 16 q)) 180
  exact ⟨_, lv, _, noN, A3.swap, blank_bk (by simp) hp.out h1.out hn.out hl.out, fun x hx => by simp [hx]⟩

set_option maxHeartbeats 1000000 in
theorem New_bad {w : World} {n : Int} (h : n < 1 ∨ n > 64) : Calls Tryz.prog 76 #[.int .i64 n] w fun e w' => e = .returned (.tuple #[.pointer none, .int .i64 60]) ∧ w' = w := by
  by_cases h1 : n < 1
  · have d1 : decide (n < 1) = true := by simpa using h1
    go_enter Tryz.func76, Tryz.ntmps76
    go_wp2
    go_ret2
    exact ⟨rfl, rfl⟩
  · have d1 : decide (n < 1) = false := by simpa using h1
    have d2 : n > 64 := by omega
    go_enter Tryz.func76, Tryz.ntmps76
    go_wp2
    go_ret2
    exact ⟨rfl, rfl⟩

end Go.Proofs.YtafickhhdemjnaaGreatDoor

namespace Go.Proofs.YtafickhhdemjnaaGreatDoor
open Go.RowKit Go.Sort
set_option linter.unusedVariables false

/-- The nodes that are looked at, from one of some height down. -/
def vis (N : Nodes) (a : Nat) : Nat → Nat → List Nat
  | 0, k => [k]
  | e + 1, k => if (N k).1 ≤ a then [k] else k :: (vis N a e (2 * k) ++ vis N a e (2 * k + 1))

/-- A node of some height. -/
def Ht (lv e k : Nat) : Prop := lv ≤ k * 2 ^ e ∧ k * 2 ^ e + 2 ^ e ≤ 2 * lv

theorem Ht.leaf {lv k : Nat} (h : Ht lv 0 k) : lv ≤ k ∧ k < 2 * lv := by
  unfold Ht at h
  simp at h
  omega
theorem Ht.inner {lv e k : Nat} (h : Ht lv (e + 1) k) : k < lv ∧ Ht lv e (2 * k) ∧ Ht lv e (2 * k + 1) := by
  unfold Ht at *
  have hp : 0 < 2 ^ e := Nat.pow_pos (by omega)
  have e1 : k * 2 ^ (e + 1) = 2 * (k * 2 ^ e) := by rw [Nat.pow_succ, ← Nat.mul_assoc]; omega
  have e2 : 2 * k * 2 ^ e = 2 * (k * 2 ^ e) := by rw [Nat.mul_assoc]
  have e3 : (2 * k + 1) * 2 ^ e = 2 * (k * 2 ^ e) + 2 ^ e := by rw [Nat.add_mul, e2]; omega
  have e4 : 2 ^ (e + 1) = 2 * 2 ^ e := by rw [Nat.pow_succ]; omega
  have e5 : k ≤ k * 2 ^ e := Nat.le_mul_of_pos_right k hp
  rw [e1, e4] at h
  rw [e2, e3]
  omega
theorem Ht.small {lv e k : Nat} (h : Ht lv e k) (hl : lv ≤ 64) : k < 128 := by
  unfold Ht at h
  have hp : 0 < 2 ^ e := Nat.pow_pos (by omega)
  have e5 : k ≤ k * 2 ^ e := Nat.le_mul_of_pos_right k hp
  omega

set_option maxHeartbeats 4000000 in
theorem look41 {g o lv a : Nat} {m1 m2 m3 : Nat} {N : Nodes} (I X : List Nat → World → Prop) (hl : lv ≤ 64)
    (hV : ∀ l w, I l w → View w g o lv N)
    (V : List Nat) (hs : ∀ (l : List Nat) (k : Nat) (rest : List Nat) (w : World), l ++ k :: rest = V → k < 2 * lv → I l w → Calls Tryz.prog 112 #[.int .i64 (k : Int), .pointer (some ⟨m1, 0, none⟩), .pointer (some ⟨m2, 0, none⟩), .pointer (some ⟨m3, 0, none⟩)] w fun e w' => (e = .returned (.bool true) ∧ I (l ++ [k]) w') ∨ (e = .returned (.bool false) ∧ X (l ++ [k]) w')) :
    ∀ e k l rest w, Ht lv e k → l ++ vis N a e k ++ rest = V → I l w → Calls Tryz.prog 111 #[.pointer (some ⟨g, o, none⟩), .int .i64 (k : Int), .int .i64 (a : Int), .func (.func 112) #[] #[.pointer (some ⟨m1, 0, none⟩), .pointer (some ⟨m2, 0, none⟩), .pointer (some ⟨m3, 0, none⟩)]] w fun r w' => (r = .returned (.bool true) ∧ I (l ++ vis N a e k) w') ∨ (r = .returned (.bool false) ∧ ∃ pre, pre <+: vis N a e k ∧ X (l ++ pre) w') := by
  intro e
  induction e with
  | zero =>
    intro k l rest w hh hVV hI
    have hk := hh.leaf
    have C := hid (hs l k rest w (by simpa [vis] using hVV) (by omega) hI)
    have hk2 := hid (show lv ≤ k from hk.1)
    have VW := hid hV
    clear hs hV hI hk hh hVV
    go_enter Tryz.func111, Tryz.ntmps111
    go_wp2_with fail
    go_at_call 112
    refine C.out.mono ?_
    rintro r w2 (⟨rfl, hI⟩ | ⟨rfl, hX⟩)
    · have hI := hid hI
      have L := hid (isLeaf_any (k := k) (VW.out _ _ hI.out).leaves)
      rw [show decide (lv ≤ k) = true by simpa using hk2.out] at L
      go_wp2_with (go_at_call 114; refine L.out.mono ?_; rintro e w' ⟨rfl, rfl⟩)
      go_ret
      exact Or.inl ⟨rfl, hI.out⟩
    · have hX := hid hX
      go_wp2
      go_ret
      exact Or.inr ⟨rfl, _, List.prefix_refl _, hX.out⟩
  | succ e ih =>
    intro k l rest w hh hVV hI
    have hk128 := hh.small hl
    obtain ⟨hklv, h1, h2⟩ := hh.inner
    obtain ⟨rs, hrs⟩ : ∃ rs, vis N a (e + 1) k = k :: rs := by unfold vis; split <;> exact ⟨_, rfl⟩
    have C := hid (hs l k (rs ++ rest) w (by rw [hrs] at hVV; simpa using hVV) (by omega) hI)
    clear hrs rs
    have VV := hid hVV
    have VW := hid hV
    have IH := hid ih
    have B := hid (show k < 128 ∧ k < lv from ⟨hk128, hklv⟩)
    have HT := hid (show _ ∧ _ from ⟨h1, h2⟩)
    clear hs hV hI hh h1 h2 ih hk128 hklv hl hVV
    go_enter Tryz.func111, Tryz.ntmps111
    go_wp2_with fail
    go_at_call 112
    refine C.out.mono ?_
    rintro r w2 (⟨rfl, hI⟩ | ⟨rfl, hX⟩)
    · have hv := VW.out _ _ hI
      obtain ⟨p, n1, n2, _, _⟩ := hv.node k B.out.1
      have L := hid (isLeaf_any (k := k) hv.leaves)
      rw [show decide (lv ≤ k) = false by have := B.out.2; simp; omega] at L
      have ND := hid (node_any B.out.1 n1)
      have hI := hid hI
      generalize k % 8 * 2 = r at *
      by_cases hc : (N k).1 ≤ a
      · have E : Hid (vis N a (e + 1) k = [k]) := hid (by simp only [vis, if_pos hc])
        have hc' : ((N k).1 : Int) ≤ (a : Int) := by omega
        generalize (N k).1 = x at *
        clear hv n1 hc
        go_wp2_with (first | (go_at_call 114; refine L.out.mono ?_; rintro e w' ⟨rfl, rfl⟩) | (go_at_call 113; refine ND.out.mono ?_; rintro e w' ⟨rfl, rfl⟩))
        go_ret
        exact Or.inl ⟨rfl, by rw [E.out]; exact hI.out⟩
      · have E : Hid (vis N a (e + 1) k = k :: (vis N a e (2 * k) ++ vis N a e (2 * k + 1))) := hid (by simp only [vis, if_neg hc])
        have hc' : ¬ ((N k).1 : Int) ≤ (a : Int) := by omega
        have w1 : IntKind.i64.wrap (2 * (k : Int)) = ((2 * k : Nat) : Int) := by have := B.out.1; rw [IntKind.wrap_i64]; omega
        have w2 : IntKind.i64.wrap (((2 * k : Nat) : Int) + 1) = ((2 * k + 1 : Nat) : Int) := by have := B.out.1; rw [IntKind.wrap_i64]; omega
        have K1 := hid (IH.out (2 * k) (l ++ [k]) (vis N a e (2 * k + 1) ++ rest) _ HT.out.1 (by have := VV.out; rw [E.out] at this; simpa using this) hI.out)
        have K2 := hid (fun w2 => IH.out (2 * k + 1) (l ++ [k] ++ vis N a e (2 * k)) rest w2 HT.out.2 (by have := VV.out; rw [E.out] at this; simpa using this))
        generalize (N k).1 = x at *
        generalize vis N a e (2 * k) = v1 at *
        generalize vis N a e (2 * k + 1) = v2 at *
        generalize 2 * k + 1 = k2 at *
        generalize 2 * k = k1 at *
        clear hv n1 hc IH VV
        go_wp2_with (first | (go_at_call 114; refine L.out.mono ?_; rintro e w' ⟨rfl, rfl⟩) | (go_at_call 113; refine ND.out.mono ?_; rintro e w' ⟨rfl, rfl⟩))
        go_at_call 111
        refine K1.out.mono ?_
        rintro r2 w3 (⟨rfl, hI3⟩ | ⟨rfl, pre, hpre, hX3⟩)
        · have K2 := hid (K2.out _ hI3)
          have hI3 := hid hI3
          go_wp2_with fail
          go_at_call 111
          refine K2.out.mono ?_
          rintro r4 w4 (⟨rfl, hI4⟩ | ⟨rfl, pre, hpre, hX4⟩)
          · have hI4 := hid hI4
            go_wp2
            go_ret
            exact Or.inl ⟨rfl, by rw [E.out]; simpa using hI4.out⟩
          · have hX4 := hid hX4
            have hpre := hid hpre
            go_wp2
            go_ret
            exact Or.inr ⟨rfl, k :: (v1 ++ pre), by rw [E.out]; simpa using hpre.out, by simpa using hX4.out⟩
        · have hX3 := hid hX3
          have hpre := hid hpre
          go_wp2
          go_ret
          exact Or.inr ⟨rfl, k :: pre, by rw [E.out]; simpa using hpre.out.trans (List.prefix_append _ _), by simpa using hX3.out⟩
    · have hX := hid hX
      go_wp2
      go_ret
      exact Or.inr ⟨rfl, [k], by unfold vis; split <;> simp, hX.out⟩

end Go.Proofs.YtafickhhdemjnaaGreatDoor

namespace Go.Proofs.YtafickhhdemjnaaGreatDoor
open Go.RowKit Go.Sort
set_option linter.unusedVariables false

theorem vis_len (N : Nodes) (a : Nat) : ∀ e k, (vis N a e k).length + 1 ≤ 2 ^ (e + 1)
  | 0, k => by simp [vis]
  | e + 1, k => by
    have h1 := vis_len N a e (2 * k)
    have h2 := vis_len N a e (2 * k + 1)
    have e4 : 2 ^ (e + 1 + 1) = 2 * 2 ^ (e + 1) := by rw [Nat.pow_succ]; omega
    have hp : 0 < 2 ^ e := Nat.pow_pos (by omega)
    have e5 : 2 ^ (e + 1) = 2 * 2 ^ e := by rw [Nat.pow_succ]; omega
    unfold vis
    split
    · simp; omega
    · simp; omega

theorem vis_127 (N : Nodes) (a : Nat) {e : Nat} (h : e ≤ 6) (k : Nat) : (vis N a e k).length ≤ 127 := by
  have := vis_len N a e k
  have h2 : 2 ^ (e + 1) ≤ 2 ^ 7 := Nat.pow_le_pow_right (by omega) (by omega)
  omega

theorem Ht.root (h : Nat) : Ht (2 ^ h) h 1 := by unfold Ht; omega

theorem wrap_next (c : Nat) : IntKind.i64.wrap (IntKind.i64.wrap (c : Int) + 1) = IntKind.i64.wrap ((c + 1 : Nat) : Int) := by
  rw [IntKind.wrap_i64, IntKind.wrap_i64, IntKind.wrap_i64]
  omega

/-- How many nodes are looked at. -/
def looksN (N : Nodes) (at_ : Int) (h : Nat) : Nat := (vis N at_.toNat h 1).length

end Go.Proofs.YtafickhhdemjnaaGreatDoor

namespace Go.Proofs.YtafickhhdemjnaaGreatDoor
open Go.RowKit Go.Sort
set_option linter.unusedVariables false

section
variable {F : Fence} {n : Nat} {P : Program} {ops : Array Oper} {Q : Exit → Act → World → Prop}

/-- A region that draws its order, by what holds of the operations that have come (in whatever order). -/
theorem any_inv (Inv : (Nat → Bool) → Act → World → Prop)
    (hstep : ∀ (G : Nat → Bool) (i : Nat) (o : Oper) (a : Act) (w : World), ops[i]? = some o → G i = false → (∀ e ∈ o.after, Region.binds .any e = true → G e.on = true) → Inv G a w → wpOpIn F n P ops Q i (fun a' w' => Inv (fun j => if j = i then true else G j) a' w') a w)
    (hdone : ∀ (G : Nat → Bool) (a : Act) (w : World), (∀ j, j < ops.size → G j = true) → Inv G a w → Q .normal a w)
    (hlow : ∀ (i : Nat) (o : Oper), ops[i]? = some o → ∀ e ∈ o.after, Region.binds .any e = true → e.on < i) :
    ∀ (fuel : Nat) (listed : Array Bool) (a : Act) (w : World), listed.size = ops.size → listed.toList.countP (fun b => !b) ≤ fuel → Inv (fun j => listed.getD j false) a w → wpAnyIn F n P .any ops Q fuel listed a w := by
  have hall : ∀ (listed : Array Bool), listed.size = ops.size → Region.ready .any ops listed = [] → ∀ j, j < ops.size → listed.getD j false = true := by
    intro listed hs hr j
    induction j using Nat.strongRecOn with
    | _ j ih =>
      intro hj
      by_cases hb : listed.getD j false = true
      · exact hb
      · exfalso
        have hm : j ∈ Region.ready .any ops listed := mem_ready.2 ⟨by
          have hlt : j < listed.size := by omega
          simp only [Array.getD_eq_getD_getElem?, Array.getElem?_eq_getElem hlt, Option.getD_some] at hb ⊢
          simpa using hb, ops[j], Array.getElem?_eq_getElem hj, fun e he hbd => by
            have := hlow j ops[j] (Array.getElem?_eq_getElem hj) e he hbd
            exact ih e.on this (by omega)⟩
        rw [hr] at hm
        cases hm
  have hnone : ∀ (listed : Array Bool), listed.size = ops.size → listed.toList.countP (fun b => !b) = 0 → Region.ready .any ops listed = [] := by
    intro listed hs hc
    refine List.eq_nil_iff_forall_not_mem.2 fun j hj => ?_
    obtain ⟨h1, o, ho, _⟩ := mem_ready.1 hj
    have hlt : j < listed.size := by have := (Array.getElem?_eq_some_iff.1 ho).1; omega
    simp only [Array.getD_eq_getD_getElem?, Array.getElem?_eq_getElem hlt, Option.getD_some] at h1
    have := List.countP_eq_zero.1 hc listed[j] (by simp)
    rw [h1] at this
    simp at this
  intro fuel
  induction fuel with
  | zero =>
    intro listed a w hs hc hI
    have hr := hnone listed hs (by omega)
    exact ⟨hr, hdone _ a w (hall listed hs hr) hI⟩
  | succ fuel ih =>
    intro listed a w hs hc hI
    refine ⟨fun hr => hdone _ a w (hall listed hs hr) hI, fun i hi => ?_⟩
    obtain ⟨h1, o, ho, hd⟩ := mem_ready.1 hi
    have hlt : i < listed.size := by have := (Array.getElem?_eq_some_iff.1 ho).1; omega
    have h1' : listed[i] = false := by
      simp only [Array.getD_eq_getD_getElem?, Array.getElem?_eq_getElem hlt, Option.getD_some] at h1
      exact h1
    have h2 := hstep (fun j => listed.getD j false) i o a w ho (by simp [Array.getD_eq_getD_getElem?, Array.getElem?_eq_getElem hlt, h1']) hd hI
    have hF : (fun j => if j = i then true else listed.getD j false) = fun j => (listed.setIfInBounds i true).getD j false := by
      funext j
      by_cases e : j = i
      · subst e; simp [Array.getD_eq_getD_getElem?, hlt]
      · have e' : ¬ i = j := fun h => e h.symm
        simp [Array.getD_eq_getD_getElem?, e, e']
    rw [hF] at h2
    have hc2 : (listed.setIfInBounds i true).toList.countP (fun b => !b) ≤ fuel := by
      rw [Array.toList_setIfInBounds, List.countP_set (by simpa using hlt)]
      have h3 : listed.toList[i]'(by simpa using hlt) = false := by simpa using h1'
      have h4 : 0 < listed.toList.countP (fun b => !b) := List.countP_pos_iff.2 ⟨false, by rw [← h3]; simp, rfl⟩
      simp only [h3, Bool.not_false, Bool.not_true, if_true]
      simp only [Bool.false_eq_true, if_false]
      omega
    have mono : ∀ (a' : Act) (w' : World), Inv (fun j => (listed.setIfInBounds i true).getD j false) a' w' → wpAnyIn F n P .any ops Q fuel (listed.setIfInBounds i true) a' w' := fun a' w' h => ih _ a' w' (by simpa using hs) hc2 h
    unfold wpOpIn at h2 ⊢
    rw [ho] at h2 ⊢
    simp only at h2 ⊢
    split
    · rename_i hw
      simp only [hw, if_true] at h2
      exact Oper.wpIn_mono mono h2
    · rename_i hw
      simp only [hw] at h2
      exact ⟨h2.1, mono _ _ h2.2⟩

theorem region_inv {id : Nat} {a : Act} {w : World} (hm : P.follows .mixedOrders = true) (Inv : (Nat → Bool) → Act → World → Prop)
    (hlow : ∀ (i : Nat) (o : Oper), ops[i]? = some o → ∀ e ∈ o.after, Region.binds .any e = true → e.on < i)
    (h0 : Inv (fun _ => false) a w.drew)
    (hstep : ∀ (G : Nat → Bool) (i : Nat) (o : Oper) (a : Act) (w : World), ops[i]? = some o → G i = false → (∀ e ∈ o.after, Region.binds .any e = true → G e.on = true) → Inv G a w → wpOpIn F n P ops Q i (fun a' w' => Inv (fun j => if j = i then true else G j) a' w') a w)
    (hdone : ∀ (G : Nat → Bool) (a : Act) (w : World), (∀ j, j < ops.size → G j = true) → Inv G a w → Q .normal a w) : (Code.region id ops true).wpIn F n P Q a w := by
  refine wpIn_region_any hm (any_inv Inv hstep hdone hlow _ _ _ _ (by simp) (by have := List.countP_le_length (p := fun b => !b) (l := (Array.replicate ops.size false).toList); simpa using this) ?_)
  have e : (fun j => (Array.replicate ops.size false).getD j false) = fun _ => false := by
    funext j
    simp [Array.getD_eq_getD_getElem?, Array.getElem?_replicate]
    split <;> rfl
  rw [e]
  exact h0

/-- The order of the text serves as an order: each operation waits for earlier ones alone. -/
def lowB (l : List Oper) : Bool := (List.range l.length).all fun i => match l[i]? with | none => true | some o => o.after.toList.all fun e => decide (e.on < i)
theorem lowB_spec {l : List Oper} (h : lowB l = true) : ∀ (i : Nat) (o : Oper), l.toArray[i]? = some o → ∀ e ∈ o.after, Region.binds .any e = true → e.on < i := by
  intro i o ho e he _
  rw [List.getElem?_toArray] at ho
  have hi := (List.getElem?_eq_some_iff.1 ho).1
  have := List.all_eq_true.1 h i (List.mem_range.2 hi)
  rw [ho] at this
  simpa using List.all_eq_true.1 this e (by simpa using he)
end
end Go.Proofs.YtafickhhdemjnaaGreatDoor
