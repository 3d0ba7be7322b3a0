import Derived.Test.YtaomhahmpbfjhaaJ10
namespace Go.Proofs.Ytaomhahmpbfjhaa
open Go.RowKit
set_option linter.unusedVariables false

theorem All.sublist {cs ds : List Comp} {w : World} (hs : ds.Sublist cs) (h : All cs w) : All ds w := by
  induction hs with
  | slnil => exact trivial
  | cons a _ ih => exact ih h.2.2
  | cons_cons a hs ih => exact ⟨h.1, fun d hd => h.2.1 d (hs.subset hd), ih h.2.2⟩

theorem Last_mem {w : World} {g n lv : Nat} {ps : List Nat} {N : Nodes} {P : Pool} {cs : List Comp} {S : Sheets} (hA : All cs w) (hp : poolC P ∈ cs) (hg : blkC g (bookL n lv ps) 70 ∈ cs) (hB : Bk P n lv ps N S) : Calls Try.prog 18 #[.pointer (some ⟨g, 0, none⟩)] w fun e w' => e = .returned (.int .i64 (lastS S n : Int)) ∧ w' = w := by
  have hgb : w.heap[g]? = some (.cells (treeL [.int .i64 (n : Int)] lv ps).toArray 70 (0, 0)) := hA.blk hg
  have hpl : ∀ x ∈ P, w.heap[x.1]? = some x.2 := fun x hx => ((hA.mem hp).2.1 x hx).1
  have V := hB.tr.view hpl hgb
  obtain ⟨p, k1, k2, _, _⟩ := V.node 1 (by omega)
  rw [hB.last] at k2
  exact Last_any (g := g) (p := p) k1 k2

theorem newS_n {S : Sheets} {a n m : Nat} (hz : ∀ i, n ≤ i → S i = (0, [])) (h : n ≤ m) : newS S a (List.range m) = newS S a (List.range n) := by
  have e : List.range m = List.range n ++ (List.range (m - n)).map (n + ·) := by
    rw [← List.range_add]; congr 1; omega
  rw [e, newS_append, newS_nil (l := (List.range (m - n)).map (n + ·)) (fun i hi => by
    obtain ⟨j, _, rfl⟩ := List.mem_map.1 hi
    rw [hz (n + j) (by omega)]; simp), List.append_nil]

theorem newS_mem {S : Sheets} {a n : Nat} {k : Nat × Nat × List UInt8} (h : k ∈ newS S a (List.range n)) : k.1 < n ∧ a < (S k.1).1 ∧ k.2 = S k.1 := by
  unfold newS at h
  obtain ⟨i, hi, e⟩ := List.mem_filterMap.1 h
  by_cases hc : a < (S i).1
  · rw [if_pos hc] at e
    cases e
    exact ⟨List.mem_range.1 hi, hc, rfl⟩
  · rw [if_neg hc] at e; cases e
theorem newS_has {S : Sheets} {a n i : Nat} (hi : i < n) (h : a < (S i).1) : (i, S i) ∈ newS S a (List.range n) := by
  unfold newS
  exact List.mem_filterMap.2 ⟨i, List.mem_range.2 hi, by rw [if_pos h]⟩

theorem newS_rise (S : Sheets) (a : Nat) : ∀ n, ((newS S a (List.range n)).map (·.1)).Pairwise (· < ·)
  | 0 => by simp [newS]
  | n + 1 => by
    rw [List.range_succ, newS_append, List.map_append, List.pairwise_append]
    refine ⟨newS_rise S a n, ?_, fun x hx y hy => ?_⟩
    · unfold newS
      by_cases h : a < (S n).1 <;> simp [h]
    · obtain ⟨k, hk, rfl⟩ := List.mem_map.1 hx
      have h1 := (newS_mem hk).1
      unfold newS at hy
      by_cases h : a < (S n).1
      · simp [h] at hy; omega
      · simp [h] at hy

theorem keys_num {ys : List Xs} {l : List (Nat × Nat × List UInt8)} (h : ys.map Xs.key = l) {y : Xs} (hy : y ∈ ys) : (y.num, y.at_, y.bs) ∈ l := by
  rw [← h]; exact List.mem_map.2 ⟨y, hy, rfl⟩

theorem Fit.of_keys {S : Sheets} {a n : Nat} {ys : List Xs} (h : ys.map Xs.key = newS S a (List.range n)) (hcap : ∀ i, (S i).1 ≤ 1099511627776 ∧ (S i).2.length ≤ 2304) (hl : ∀ y ∈ ys, y.len = y.bs.length) : Fit n ys := by
  refine ⟨fun i y hy => ?_, fun i y z hy hz => ?_⟩
  · have hm := List.mem_of_getElem? hy
    obtain ⟨h1, h2, h3⟩ := newS_mem (keys_num h hm)
    have h4 := hcap y.num
    have h3 : (y.at_, y.bs) = S y.num := h3
    have h2 : a < (S y.num).1 := h2
    rw [← h3] at h2 h4
    have := hl y hm
    exact ⟨h1, by simp only at h2; omega, h4.1, by rw [this]; exact h4.2⟩
  · have hp := newS_rise S a n
    rw [← h, List.map_map] at hp
    have := List.pairwise_iff_getElem.1 hp i (i + 1) (by simp; exact (List.getElem?_eq_some_iff.1 hy).1) (by simp; exact (List.getElem?_eq_some_iff.1 hz).1) (by omega)
    simpa [(List.getElem?_eq_some_iff.1 hy).2, (List.getElem?_eq_some_iff.1 hz).2, Xs.key] using this

theorem applyS_at {S : Sheets} : ∀ (ys : List Xs) (S0 : Sheets) (i : Nat), (∀ y ∈ ys, (y.at_, y.bs) = S y.num) → applyS S0 ys i = if i ∈ ys.map Xs.num then S i else S0 i
  | [], S0, i, _ => by simp [applyS]
  | y :: ys, S0, i, h => by
    have ih := applyS_at ys (setS S0 y.num (y.at_, y.bs)) i (fun z hz => h z (by simp [hz]))
    have e : applyS S0 (y :: ys) = applyS (setS S0 y.num (y.at_, y.bs)) ys := rfl
    rw [e, ih]
    by_cases h1 : i ∈ ys.map Xs.num
    · rw [if_pos h1, if_pos (by simp only [List.map_cons, List.mem_cons]; exact .inr h1)]
    · rw [if_neg h1]
      by_cases h2 : i = y.num
      · subst h2
        rw [if_pos (by simp)]
        simp [setS, h y (by simp)]
      · rw [if_neg (by simp only [List.map_cons, List.mem_cons]; exact fun hh => hh.elim h2 h1)]
        simp [setS, h2]

/-- What was written since has a greater stamp. -/
def Mixed (S0 S : Sheets) (sc : Nat) : Prop := ∀ i, S i = S0 i ∨ sc < (S i).1

theorem Mixed.put {S0 S : Sheets} {sc n : Nat} (h : Mixed S0 S sc) {num at_ : Int} {l : List UInt8} (ha : (sc : Int) < at_) : Mixed S0 (putS n S num at_ l) sc := by
  unfold putS
  split
  · intro i
    unfold setS
    by_cases e : i = num.toNat
    · rw [if_pos e]; right; simp only; omega
    · rw [if_neg e]; exact h i
  · exact h

theorem Mixed.applied {S0 S : Sheets} {sc n : Nat} {ys : List Xs} (h : Mixed S0 S sc) (hz : ∀ i, n ≤ i → S i = (0, [])) (hle : ∀ i, (S0 i).1 ≤ sc) (hk : ys.map Xs.key = newS S sc (List.range n)) : applyS S0 ys = S := by
  funext i
  rw [applyS_at (S := S) ys S0 i (fun y hy => (newS_mem (keys_num hk hy)).2.2)]
  by_cases hc : sc < (S i).1
  · have hin : i < n := by
      rcases Nat.lt_or_ge i n with h1 | h1
      · exact h1
      · rw [hz i h1] at hc; simp at hc
    have hm := newS_has hin hc
    rw [← hk] at hm
    obtain ⟨y, hy, e⟩ := List.mem_map.1 hm
    have e1 : y.num = i := congrArg Prod.fst e
    rw [if_pos (List.mem_map.2 ⟨y, hy, e1⟩)]
  · split
    · rfl
    · rcases h i with h1 | h1
      · exact h1.symm
      · exact absurd h1 hc

theorem Bk.le_last {P : Pool} {n lv : Nat} {ps : List Nat} {N : Nodes} {S : Sheets} (hB : Bk P n lv ps N S) (i : Nat) : (S i).1 ≤ lastS S n := by
  rcases Nat.lt_or_ge i n with h | h
  · have := mx_le S 0 h
    rw [Nat.zero_add] at this
    exact this
  · rw [hB.zero i h]; simp

/-- Two books beside each other. -/
def Two (w : World) (g g2 n : Nat) (S S2 : Sheets) (wr : World) : Prop :=
  ∃ Q lv ps N lv2 ps2 N2, All [poolC Q, blkC g (bookL n lv ps) 70, blkC g2 (bookL n lv2 ps2) 70, inC w] wr ∧ Bk Q n lv ps N S ∧ Bk Q n lv2 ps2 N2 S2

theorem Two.later {w : World} {g g2 n : Nat} {S S2 : Sheets} {wr wr' : World} (h : Two w g g2 n S S2 wr) (hb : Below wr.heap.size wr wr') : Two w g g2 n S S2 wr' := by
  obtain ⟨Q, lv, ps, N, lv2, ps2, N2, A, B, B2⟩ := h
  exact ⟨Q, lv, ps, N, lv2, ps2, N2, A.later hb, B, B2⟩

theorem Two.into {w : World} {g g2 n : Nat} {S S2 : Sheets} {wr : World} (h : Two w g g2 n S S2 wr) : Below w.heap.size w wr := by
  obtain ⟨Q, lv, ps, N, lv2, ps2, N2, A, B, B2⟩ := h
  exact A.into (by simp)

theorem Two.put {w : World} {g g2 n : Nat} {S S2 : Sheets} {wr : World} {num at_ : Int} {s : Value} {l : List UInt8} (h : Two w g g2 n S S2 wr) (hs : Reads wr s l) :
    Calls Try.prog 12 #[.pointer (some ⟨g, 0, none⟩), .int .i64 num, .int .i64 at_, s] wr fun e w' => e = .returned (.int .i64 (putE n S num at_ l)) ∧ Two w g g2 n (putS n S num at_ l) S2 w' := by
  obtain ⟨Q, lv, ps, N, lv2, ps2, N2, A, B, B2⟩ := h
  refine (Put_all A B hs).mono ?_
  rintro e w' ⟨rfl, Q', lv', ps', N', A', B', hS⟩
  exact ⟨rfl, Q', lv', ps', N', lv2, ps2, N2, A', B', B2.mono hS⟩

theorem Two.last1 {w : World} {g g2 n : Nat} {S S2 : Sheets} {wr : World} (h : Two w g g2 n S S2 wr) : Calls Try.prog 18 #[.pointer (some ⟨g, 0, none⟩)] wr fun e w' => e = .returned (.int .i64 (lastS S n : Int)) ∧ w' = wr := by
  obtain ⟨Q, lv, ps, N, lv2, ps2, N2, A, B, B2⟩ := h
  exact Last_mem A (by simp) (by simp) B
theorem Two.last2 {w : World} {g g2 n : Nat} {S S2 : Sheets} {wr : World} (h : Two w g g2 n S S2 wr) : Calls Try.prog 18 #[.pointer (some ⟨g2, 0, none⟩)] wr fun e w' => e = .returned (.int .i64 (lastS S2 n : Int)) ∧ w' = wr := by
  obtain ⟨Q, lv, ps, N, lv2, ps2, N2, A, B, B2⟩ := h
  exact Last_mem (P := Q) A (by simp) (by simp) B2

theorem dats_len {ys : List Xs} {cs : List Comp} {w : World} (h : All cs w) (hd : ∀ y ∈ ys, datC y ∈ cs) : ∀ y ∈ ys, y.len = y.bs.length := fun y hy => by
  have ho : w.ownsRow 0 5 1 y.v y.bs.length (cellsB y.bs) := (h.mem (hd y hy)).2.1
  obtain ⟨a', c', e'⟩ := owns_form ho
  simp only [Xs.v, Value.slice.injEq] at e'
  exact e'.2.1

/-- What was written since is carried over. -/
theorem Two.carry {w : World} {g g2 n sc : Nat} {S S2 : Sheets} {wr : World} (h : Two w g g2 n S S2 wr) (hm : Mixed S2 S sc) (hle : ∀ i, (S2 i).1 ≤ sc) :
    Calls Try.prog 20 #[.pointer (some ⟨g, 0, none⟩), .int .i64 (sc : Int), .int .i64 (-1)] wr fun e w4 => ∃ ao k c, e = .returned (.slice ao k c) ∧ Hid (Calls Try.prog 19 #[.pointer (some ⟨g2, 0, none⟩), .slice ao k c] w4 fun e w5 => e = .returned (.int .i64 0) ∧ Two w g g2 n S S w5) := by
  obtain ⟨Q, lv, ps, N, lv2, ps2, N2, A, B, B2⟩ := h
  obtain ⟨hh, h6, rfl⟩ := B.pow
  refine (given_whole (at_ := (sc : Int)) A B h6).mono ?_
  rintro e w4 ⟨ao, c, ys, rfl, hk, A4⟩
  refine ⟨ao, ys.length, c, rfl, hid ?_⟩
  rw [B.foundAll, newS_n B.zero B.nlv, Int.toNat_natCast] at hk
  have hd : ∀ y ∈ ys, datC y ∈ (rowC 51 3 (.slice ao ys.length c) ys.length (flatX ys) :: (ys.map datC ++ [blkC g (bookL n (2 ^ hh) ps) 70, inC w])) := fun y hy => by
    simp only [List.mem_cons, List.mem_append, List.mem_map]
    exact .inr (.inl ⟨y, hy, rfl⟩)
  have A5 : All (poolC Q :: blkC g2 (bookL n lv2 ps2) 70 :: (rowC 51 3 (.slice ao ys.length c) ys.length (flatX ys) :: (ys.map datC ++ [blkC g (bookL n (2 ^ hh) ps) 70, inC w]))) w4 := by
    refine A4.perm ?_
    have p1 : (ys.map datC ++ [poolC Q, blkC g (bookL n (2 ^ hh) ps) 70, blkC g2 (bookL n lv2 ps2) 70, inC w]).Perm (poolC Q :: blkC g2 (bookL n lv2 ps2) 70 :: (ys.map datC ++ [blkC g (bookL n (2 ^ hh) ps) 70, inC w])) := by
      refine List.perm_middle.trans (.cons _ ?_)
      have : (ys.map datC ++ [blkC g (bookL n (2 ^ hh) ps) 70, blkC g2 (bookL n lv2 ps2) 70, inC w]) = (ys.map datC ++ [blkC g (bookL n (2 ^ hh) ps) 70]) ++ blkC g2 (bookL n lv2 ps2) 70 :: [inC w] := by simp
      rw [this]
      refine List.perm_middle.trans (.cons _ ?_)
      simp
    exact (List.Perm.cons _ p1).trans ((List.Perm.swap _ _ _).trans (.cons _ (List.Perm.swap _ _ _)))
  have hlen : ys.length ≤ 1000 := by
    have h1 : ys.length = (newS S sc (List.range n)).length := by rw [← hk]; simp
    have h2 : (newS S sc (List.range n)).length ≤ (List.range n).length := List.length_filterMap_le _ _
    have h3 := B.nlv
    have h4 := B.lv64
    simp at h2
    omega
  refine (Apply_ok A5 B2 (by simp) hd (Fit.of_keys hk B.cap (dats_len A5 (fun y hy => by simp only [List.mem_cons]; exact .inr (.inr (by simpa using hd y hy))))) hlen).mono ?_
  rintro e w5 ⟨rfl, Q', lv', ps', N', A', B', hS⟩
  rw [hm.applied B.zero hle hk] at B'
  refine ⟨rfl, Q', 2 ^ hh, ps, N, lv', ps', N', ?_, B.mono hS, B'⟩
  have s1 : [poolC Q', blkC g2 (bookL n lv' ps') 70, blkC g (bookL n (2 ^ hh) ps) 70, inC w].Sublist (poolC Q' :: blkC g2 (bookL n lv' ps') 70 :: (rowC 51 3 (.slice ao ys.length c) ys.length (flatX ys) :: (ys.map datC ++ [blkC g (bookL n (2 ^ hh) ps) 70, inC w]))) :=
    .cons_cons _ (.cons_cons _ (.cons _ (List.sublist_append_right _ _)))
  exact (A'.sublist s1).perm (.cons _ (List.Perm.swap _ _ _))

/-- The same sheets on both. -/
theorem Two.gets {w : World} {g g2 n i : Nat} {S : Sheets} {wr : World} (h : Two w g g2 n S S wr) (hi : i < n) :
    Calls Try.prog 21 #[.pointer (some ⟨g, 0, none⟩), .int .i64 (i : Int)] wr fun e w4 => ∃ a c, e = .returned (.tuple #[.slice a (S i).2.length c, .int .i64 ((S i).1 : Int), .int .i64 0]) ∧
      Hid (Calls Try.prog 21 #[.pointer (some ⟨g2, 0, none⟩), .int .i64 (i : Int)] w4 fun e w5 => ∃ a2 c2, e = .returned (.tuple #[.slice a2 (S i).2.length c2, .int .i64 ((S i).1 : Int), .int .i64 0]) ∧
        Hid (Calls Try.prog 22 #[.slice a (S i).2.length c, .slice a2 (S i).2.length c2] w5 fun e w6 => e = .returned (.bool true) ∧ Two w g g2 n S S w6)) := by
  obtain ⟨Q, lv, ps, N, lv2, ps2, N2, A, B, B2⟩ := h
  refine (Get_all A B hi).mono ?_
  rintro e w4 ⟨a, c, rfl, A4⟩
  refine ⟨a, c, rfl, hid ?_⟩
  have A5 : All (poolC Q :: blkC g2 (bookL n lv2 ps2) 70 :: [rowC 5 1 (.slice a (S i).2.length c) (S i).2.length (cellsB (S i).2), blkC g (bookL n lv ps) 70, inC w]) w4 := by
    refine A4.perm ?_
    exact (List.Perm.swap _ _ _).trans (.cons _ ((List.Perm.cons _ (List.Perm.swap _ _ _)).trans (List.Perm.swap _ _ _)))
  refine (Get_all A5 B2 hi).mono ?_
  rintro e w5 ⟨a2, c2, rfl, A6⟩
  refine ⟨a2, c2, rfl, hid ?_⟩
  have r1 : Reads w5 (.slice a (S i).2.length c) (S i).2 := Reads.of_owns (show w5.ownsRow 0 5 1 _ _ _ from (A6.mem (c := rowC 5 1 (.slice a (S i).2.length c) (S i).2.length (cellsB (S i).2)) (by simp)).2.1)
  have r2 : Reads w5 (.slice a2 (S i).2.length c2) (S i).2 := Reads.of_owns (show w5.ownsRow 0 5 1 _ _ _ from (A6.mem (c := rowC 5 1 (.slice a2 (S i).2.length c2) (S i).2.length (cellsB (S i).2)) (by simp)).2.1)
  refine (same_eq r1 r2 (by have := (B.cap i).2; omega)).mono ?_
  rintro e w6 ⟨rfl, q, rfl⟩
  refine ⟨rfl, Q, lv, ps, N, lv2, ps2, N2, ?_, B, B2⟩
  have s1 : [poolC Q, blkC g2 (bookL n lv2 ps2) 70, blkC g (bookL n lv ps) 70, inC w].Sublist [rowC 5 1 (.slice a2 (S i).2.length c2) (S i).2.length (cellsB (S i).2), poolC Q, blkC g2 (bookL n lv2 ps2) 70, rowC 5 1 (.slice a (S i).2.length c) (S i).2.length (cellsB (S i).2), blkC g (bookL n lv ps) 70, inC w] :=
    .cons _ (.cons_cons _ (.cons_cons _ (.cons _ (.refl _))))
  exact ((A6.sublist s1).perm (.cons _ (List.Perm.swap _ _ _))).drewN q

/-- As many on both. -/
theorem Two.counts {w : World} {g g2 n sc : Nat} {S : Sheets} {wr : World} (h : Two w g g2 n S S wr) :
    Calls Try.prog 20 #[.pointer (some ⟨g2, 0, none⟩), .int .i64 (sc : Int), .int .i64 (-1)] wr fun e w4 => ∃ ao c, e = .returned (.slice ao (newS S sc (List.range n)).length c) ∧
      Hid (Calls Try.prog 20 #[.pointer (some ⟨g, 0, none⟩), .int .i64 (sc : Int), .int .i64 (-1)] w4 fun e w5 => (∃ ao c, e = .returned (.slice ao (newS S sc (List.range n)).length c)) ∧ Below w.heap.size w w5) := by
  obtain ⟨Q, lv, ps, N, lv2, ps2, N2, A, B, B2⟩ := h
  obtain ⟨h1, h6, rfl⟩ := B.pow
  obtain ⟨h2, h62, rfl⟩ := B2.pow
  have A' := A.perm (.cons _ (List.Perm.swap _ _ _))
  refine (given_whole (at_ := (sc : Int)) A' B2 h62).mono ?_
  rintro e w4 ⟨ao, c, ys, rfl, hk, A4⟩
  rw [B2.foundAll, newS_n B2.zero B2.nlv, Int.toNat_natCast] at hk
  have hl : ys.length = (newS S sc (List.range n)).length := by rw [← hk]; simp
  refine ⟨ao, c, by rw [hl], hid ?_⟩
  have A5 := (A4.tail.rest).perm (.cons _ (List.Perm.swap _ _ _))
  refine (given_whole (at_ := (sc : Int)) A5 B h6).mono ?_
  rintro e w5 ⟨ao2, c2, zs, rfl, hk2, A6⟩
  rw [B.foundAll, newS_n B.zero B.nlv, Int.toNat_natCast] at hk2
  have hl2 : zs.length = (newS S sc (List.range n)).length := by rw [← hk2]; simp
  exact ⟨⟨ao2, c2, by rw [hl2]⟩, (A6.tail.rest).into (by simp)⟩

end Go.Proofs.Ytaomhahmpbfjhaa

namespace Go.Proofs.Ytaomhahmpbfjhaa
open Go.RowKit
set_option linter.unusedVariables false

theorem differ_at {l t : List UInt8} (hl : l.length = t.length) (h : l ≠ t) : ∃ k, k < l.length ∧ l.getD k 0 ≠ t.getD k 0 := by
  apply Classical.byContradiction
  intro hn
  apply h
  apply List.ext_getElem hl
  intro i h1 h2
  apply Classical.byContradiction
  intro hne
  exact hn ⟨i, h1, by simpa [List.getD, List.getElem?_eq_getElem h1, List.getElem?_eq_getElem h2] using hne⟩

set_option maxHeartbeats 1600000 in
set_option maxRecDepth 1000000 in
/-- The document's Same. -/
theorem Same_any {w : World} {s t : Value} {l m : List UInt8} (hs : Reads w s l) (ht : Reads w t m) (hl : l.length ≤ 140737488355328) (hm : m.length ≤ 140737488355328) :
    Calls Try.prog 22 #[s, t] w fun e w' => e = .returned (.bool (decide (l = m))) ∧ ∃ q, w' = w.drewN q := by
  by_cases heq : l = m
  · subst heq
    refine (same_eq hs ht hl).mono ?_
    rintro e w' ⟨rfl, hq⟩
    exact ⟨by simp, hq⟩
  rw [show decide (l = m) = false by simpa using heq]
  obtain ⟨ao, c, hf⟩ := hs.form
  obtain ⟨ao', c', hf'⟩ := ht.form
  subst hf hf'
  have HS := hid hs
  have HT := hid ht
  clear hs ht
  by_cases hlm : l.length = m.length
  · obtain ⟨kd, hkd, hdf⟩ := differ_at hlm heq
    have HD := hid (show kd < l.length ∧ l.getD kd 0 ≠ m.getD kd 0 from ⟨hkd, hdf⟩)
    have hne : ((l.length : Int) != (m.length : Int)) = false := by simp [hlm]
    have hlm' := hid hlm
    clear heq hkd hdf hlm
    go_enter Try.func22, Try.ntmps22
    go_wp2
    go_loopw [5, 13] (fun _ iv wr => ∃ (k q : Nat), k ≤ kd ∧ iv = .int .i64 (k : Int) ∧ w.drewN q = wr) (fun _ iv _ => l.length - (intOf iv).toNat)
    case atStart => exact ⟨0, 0, by omega, rfl, rfl⟩
    case round =>
      obtain ⟨k, q, hk, rfl, rfl⟩ := hrel
      have hlt : k < l.length := by have := HD.out.1; omega
      have hltm : k < m.length := by have := hlm'.out; omega
      obtain ⟨g, o, rfl, h1⟩ := HS.out.at_u8 k hlt
      obtain ⟨g', o', rfl, h2⟩ := HT.out.at_u8 k hltm
      by_cases hxy : (l.getD k 0).toNat = (m.getD k 0).toNat
      · have hkk : Hid (k < kd) := hid (by
          rcases Nat.lt_or_ge k kd with h | h
          · exact h
          · exfalso
            have e : k = kd := by omega
            subst e
            exact HD.out.2 (UInt8.toNat_inj.1 hxy))
        rw [← hxy] at h2
        generalize (l.getD k 0).toNat = x at *
        have hb : ((x : Int) != (x : Int)) = false := by simp
        clear hxy
        go_wp2
        go_region
        go_wp2
        go_roundw
        case rel => exact ⟨k + 1, q + 1, by have := hkk.out; omega, by go_num, by rfl⟩
        case measure => simp [intOf]; omega
      · generalize (l.getD k 0).toNat = x at *
        generalize (m.getD k 0).toNat = y at *
        have hb : ((x : Int) != (y : Int)) = true := by simp; omega
        have hxy' := hid hxy
        clear hxy
        go_wp2
        go_region
        go_wp2
        go_ret
        exact ⟨rfl, q + 1, rfl⟩
  · have hne : ((l.length : Int) != (m.length : Int)) = true := by simp; omega
    generalize l.length = l1 at *
    generalize m.length = m1 at *
    clear HS HT hlm heq
    go_enter Try.func22, Try.ntmps22
    go_wp2
    go_ret
    exact ⟨rfl, 0, rfl⟩

set_option maxHeartbeats 1000000 in
/-- The document's copied. -/
theorem copied_any {w : World} {s : Value} {l : List UInt8} (hs : Reads w s l) (hl : l.length ≤ 140737488355328) : Calls Try.prog 38 #[s] w fun e w' => ∃ v, e = .returned v ∧ w'.ownsRow w.heap.size 5 1 v l.length (cellsB l) ∧ Below w.heap.size w w' := by
  obtain ⟨ao, c, rfl, hc, hcase⟩ := hs
  obtain ⟨i0, hi, hz0, hz1, hz2⟩ := info_parts Try.info5
  have t36 := Try.underlying36
  have h0 : w.ownsRow w.heap.size 5 1 (.slice none 0 0) 0 [] := ⟨by simp, Or.inl ⟨rfl, rfl⟩⟩
  cases ao with
  | none =>
    have hl0 : l = [] := by
      rcases hcase with h | ⟨g, o, e, _⟩
      · exact h.1
      · cases e
    have hc0 : c = 0 := by
      rcases hcase with h | ⟨g, o, e, _⟩
      · exact h.2 rfl
      · cases e
    subst hl0
    subst hc0
    go_enter Try.func38, Try.ntmps38
    go_wp2_with (at_builtin; refine wpList_append_own_none rfl (.tmp 4) (.tmp 5) 36 rfl w.heap.size 5 i0 1 Try.underlying36 hi _ _ _ rfl h0 rfl ?_)
    go_ret
    exact ⟨_, rfl, ⟨by simp [cellsB], Or.inl ⟨rfl, rfl⟩⟩, Below.refl _ _⟩
  | some a =>
    have A : Hid (∀ j u, (cellsB l)[j]? = some u → w.cell? (a.add j) = some u) := by
      rcases hcase with h | ⟨g, o, e, _, h⟩
      · exact hid (fun j u hu => by rw [h.1] at hu; simp [cellsB] at hu)
      · cases e
        exact hid (by simpa [Addr.add_lit] using h)
    have L : Hid (l.length ≤ 140737488355328) := hid hl
    have O := cellsB_one l
    obtain ⟨n, hn⟩ : ∃ n, Hid (n = l.length) := ⟨_, hid rfl⟩
    have Q : Hid ((cellsB l).length = n) := hid (by rw [hn.out]; exact cellsB_length l)
    have L2 : Hid (n ≤ 140737488355328) := hid (by rw [hn.out]; exact L.out)
    rw [← hn.out]
    generalize cellsB l = xs at *
    clear hcase hl hc L hn
    go_enter Try.func38, Try.ntmps38
    go_wp2_with (at_builtin; refine wpList_append_own _ rfl (.tmp 4) (.tmp 5) 36 rfl w.heap.size 5 i0 (.int .u8 0) 1 1 t36 hi hz0 hz1 hz2 rfl (by decide) _ _ _ rfl h0 a n c xs rfl ?qc1 ?qc2 ?qc3 ?qc4 ?qc5 ?qc6 ?_)
    case qc1 => simp; exact Q.out
    case qc2 => exact A.out
    case qc3 => exact O
    case qc4 => have := L2.out; unfold maxLen; omega
    case qc5 => have := L2.out; omega
    case qc6 => exact Nat.le_refl _
    intro v' w1 hown hgrow hnil
    go_wp2
    go_ret
    refine ⟨v', rfl, ?_, ?_⟩
    · simpa using hown
    · exact (Below.refl _ w).grown hgrow (Nat.le_refl _) (by intro k hk; simp [Value.ownBlock] at hk)

/-- The document's book. -/
def refL (R : Nat) (v : Value) (rs : List Xs) : List Comp := blkC R [v] 72 :: rowC 51 3 v rs.length (flatX rs) :: rs.map datC

/-- Its sheets. -/
structure RS (n : Nat) (rs : List Xs) (S : Sheets) : Prop where
  len : rs.length = n
  each : ∀ (i : Nat) (y : Xs), rs[i]? = some y → y.num = i ∧ (y.at_, y.bs) = S i

set_option maxRecDepth 100000 in
set_option maxHeartbeats 4000000 in
theorem rLast_all {w : World} {R n : Nat} {v : Value} {rs : List Xs} {cs : List Comp} {S : Sheets} (hA : All (refL R v rs ++ cs) w) (hR : RS n rs S) (hn : n ≤ 64) (hcap : ∀ i, (S i).1 ≤ 1099511627776) :
    Calls Try.prog 31 #[.pointer (some ⟨R, 0, none⟩)] w fun e w' => e = .returned (.int .i64 (lastS S n : Int)) ∧ Below w.heap.size w w' := by
  have hb : w.heap[R]? = some (.cells [v].toArray 72 (0, 0)) := hA.blk (by simp [refL])
  have hrow : w.ownsRow 0 51 3 v rs.length (flatX rs) := (hA.mem (c := rowC 51 3 v rs.length (flatX rs)) (by simp [refL])).2.1
  obtain ⟨ao, c, rfl⟩ := owns_form hrow
  have c0 : w.cell? ⟨R, 0, none⟩ = some (.slice ao rs.length c) := by rw [cell_at hb]; rfl
  have HR := hid hrow
  have HS := hid hR
  have HN := hid hn
  obtain ⟨rl, hrl⟩ : ∃ rl, Hid (rl = rs.length) := ⟨_, hid rfl⟩
  rw [← hrl.out] at c0
  have HB : Hid (Below w.heap.size w w) := hid (Below.refl _ _)
  clear hA hR hb hrow hn hcap
  go_enter Try.func31, Try.ntmps31
  go_wp2
  go_loopw [3, 5, 11, 12, 13, 14, 15, 16, 17, 18, 19, 20, 21] (fun p3 p5 p11 p12 p13 p14 p15 p16 p17 p18 p19 p20 p21 wr => ∃ i L : Nat, p11 = .int .i64 i ∧ p3 = .int .i64 L ∧ i ≤ rl ∧ Hid (L = mx S 0 i) ∧ Hid (Below w.heap.size w wr))
    (fun p3 p5 p11 p12 p13 p14 p15 p16 p17 p18 p19 p20 p21 _ => match p11 with | .int _ i => (rl - i).toNat | _ => 0)
  case atStart => exact ⟨0, 0, rfl, rfl, by omega, hid rfl, HB⟩
  case round =>
    obtain ⟨i, L, rfl, rfl, hi, hL, hbw⟩ := hrel
    by_cases hc : (i : Int) < (rl : Int)
    · have hii : i < rs.length := by rw [← hrl.out]; omega
      obtain ⟨y, hy⟩ : ∃ y, rs[i]? = some y := ⟨_, List.getElem?_eq_getElem hii⟩
      obtain ⟨gr, rfl, hgr, c0', c1, c2⟩ := row_at HR.out hy
      have e1 := (HS.out.each i y hy).2
      have c0' := cell_under hbw.out hgr c0'
      have c1 := cell_under hbw.out hgr c1
      have c2 := cell_under hbw.out hgr c2
      have hgr2 : gr < wr.heap.size := Nat.lt_of_lt_of_le hgr hbw.out.size
      have wi : IntKind.i64.wrap ((i : Int) + 1) = ((i + 1 : Nat) : Int) := by have := HS.out.len; have := HN.out; rw [IntKind.wrap_i64]; omega
      have NB : Hid (Below w.heap.size w (wr.alloc (.cells #[.int .i64 (y.num : Int), .int .i64 (y.at_ : Int), .slice y.ao y.len y.cap] 51))) := hid (hbw.out.trans ((ba wr _).mono hbw.out.size))
      have e2 : (S i).1 = y.at_ := by rw [← e1]
      have hmx : mx S 0 (i + 1) = max (mx S 0 i) y.at_ := by rw [mx, Nat.zero_add, e2]
      by_cases hg : (y.at_ : Int) > (L : Int)
      · have NL : Hid (y.at_ = mx S 0 (i + 1)) := hid (by have := hL.out; rw [hmx]; omega)
        clear hL hbw HB hgr hy hii e1 e2 hmx c0
        go_wp2
        go_roundw
        case rel => exact ⟨i + 1, y.at_, rfl, rfl, by omega, NL, NB⟩
        case measure => simp only; omega
      · have NL : Hid (L = mx S 0 (i + 1)) := hid (by have := hL.out; rw [hmx]; omega)
        clear hL hbw HB hgr hy hii e1 e2 hmx c0
        go_wp2
        go_roundw
        case rel => exact ⟨i + 1, L, rfl, rfl, by omega, NL, NB⟩
        case measure => simp only; omega
    · have FIN : Hid (L = lastS S n) := hid (by have h1 := hL.out; have h2 := hrl.out; have h3 := HS.out.len; rw [h1]; unfold lastS; congr 1; omega)
      have hbw := hbw
      clear hL HB c0
      go_wp2
      go_ret
      exact ⟨by rw [← FIN.out]; rfl, hbw.out⟩

/-- A sheet that was never written. -/
def zeroX (i : Nat) : Xs := ⟨i, 0, none, 0, 0, []⟩
theorem All.zeros {cs : List Comp} {w : World} (h : All cs w) : ∀ l : List Nat, All ((l.map zeroX).map datC ++ cs) w
  | [] => h
  | i :: l => (All.zeros h l).addRow0 (e := 5) (size := 1)

theorem RS.zero (n : Nat) : RS n ((List.range n).map zeroX) noS :=
  ⟨by simp, fun i y hy => by
    simp only [List.getElem?_map] at hy
    by_cases hi : i < n
    · simp [hi] at hy
      subst hy
      exact ⟨rfl, rfl⟩
    · simp [hi] at hy⟩

set_option maxRecDepth 100000 in
set_option maxHeartbeats 4000000 in
theorem rNew_all {w : World} {cs : List Comp} {n : Nat} (hA : All cs w) (h1 : 1 ≤ n) (h2 : n ≤ 64) :
    Calls Try.prog 8 #[.int .i64 (n : Int)] w fun e w' => ∃ R v, e = .returned (.tuple #[.pointer (some ⟨R, 0, none⟩), .int .i64 0]) ∧ All (refL R v ((List.range n).map zeroX) ++ cs) w' := by
  have A1 : Hid (∃ v, All (blkC w.heap.size [v] 72 :: rowC 51 3 v 0 (flatX []) :: cs) (w.alloc (.cells #[.slice none 0 0] 72))) := hid ⟨.slice none 0 0, ((hA.addBlk [.slice none 0 0] 72).addRow0 (e := 51) (size := 3)).swap⟩
  have d1 : ¬ (n : Int) < 1 := by omega
  have d2 : ¬ (n : Int) > 64 := by omega
  have HN := hid h2
  obtain ⟨i1, hi1, hz0, hz1, hz2⟩ := info_parts Try.info51
  clear hA h1 h2
  go_enter Try.func8, Try.ntmps8
  go_wp2
  go_loopw [5, 14, 15, 16, 17, 18, 19, 20, 21, 22, 23, 24, 25, 26, 27, 28, 29] (fun p5 p14 p15 p16 p17 p18 p19 p20 p21 p22 p23 p24 p25 p26 p27 p28 p29 wr => ∃ i : Nat, p5 = .int .i64 i ∧ i ≤ n ∧ Hid (∃ v, All (blkC w.heap.size [v] 72 :: rowC 51 3 v i (flatX ((List.range i).map zeroX)) :: cs) wr))
    (fun p5 p14 p15 p16 p17 p18 p19 p20 p21 p22 p23 p24 p25 p26 p27 p28 p29 _ => match p5 with | .int _ i => (n - i).toNat | _ => 0)
  case atStart => exact ⟨0, rfl, by omega, A1⟩
  case round =>
    obtain ⟨i, rfl, hi, hH⟩ := hrel
    by_cases hc : (i : Int) < (n : Int)
    · obtain ⟨v, hA⟩ := hH.out
      have hb : wr.heap[w.heap.size]? = some (.cells [v].toArray 72 (0, 0)) := hA.blk (by simp)
      have hrow0 : wr.ownsRow 0 51 3 v i (flatX ((List.range i).map zeroX)) := (hA.mem (c := rowC 51 3 v i (flatX ((List.range i).map zeroX))) (by simp)).2.1
      obtain ⟨oo, oc, rfl⟩ := owns_form hrow0
      have c0 : wr.cell? ⟨w.heap.size, 0, none⟩ = some (.slice oo i oc) := by rw [cell_at hb]; rfl
      have lB : w.heap.size < wr.heap.size := (Array.getElem?_eq_some_iff.1 hb).1
      have A2 := hid (hA.alloc (.cells #[.int .i64 (i : Int), .int .i64 0, .slice none 0 0] 51))
      have hrow := hid (show (wr.alloc (.cells #[.int .i64 (i : Int), .int .i64 0, .slice none 0 0] 51)).ownsRow 0 51 3 (.slice oo i oc) i (flatX ((List.range i).map zeroX)) from (A2.out.mem (c := rowC 51 3 (.slice oo i oc) i (flatX ((List.range i).map zeroX))) (by simp)).2.1)
      have hcell : Hid (∀ j u, [Value.int .i64 (i : Int), .int .i64 0, .slice none 0 0][j]? = some u → (wr.alloc (.cells #[.int .i64 (i : Int), .int .i64 0, .slice none 0 0] 51)).cell? ((⟨wr.heap.size, 0, none⟩ : Addr).add j) = some u) := hid (fun j u hu => by
        rw [Addr.add_lit, cell_at (heap_alloc_new wr _)]
        simpa using hu)
      have hone : ∀ u ∈ [Value.int .i64 (i : Int), .int .i64 0, .slice none 0 0], u.oneCell' = true := fun u hu => by
        simp only [List.mem_cons, List.not_mem_nil, or_false] at hu
        rcases hu with rfl | rfl | rfl <;> rfl
      have HO := hid hone
      have wi : IntKind.i64.wrap ((i : Int) + 1) = ((i + 1 : Nat) : Int) := by have := HN.out; rw [IntKind.wrap_i64]; omega
      have hi64 : Hid (i < 64) := hid (by have := HN.out; omega)
      have KEY : Hid (∀ (v' : Value) (w3 : World), w3.ownsRow 0 51 3 v' (i + 1) (flatX ((List.range i).map zeroX) ++ [.int .i64 (i : Int), .int .i64 0, .slice none 0 0]) → (wr.alloc (.cells #[.int .i64 (i : Int), .int .i64 0, .slice none 0 0] 51)).grownBy w3 (Value.slice oo i oc).ownBlock → (v'.ownBlock = (Value.slice oo i oc).ownBlock ∨ v'.ownBlock = some (wr.alloc (.cells #[.int .i64 (i : Int), .int .i64 0, .slice none 0 0] 51)).heap.size) →
          ∃ o2 c2, v' = .slice o2 (i + 1) c2 ∧ w3.cell? ⟨w.heap.size, 0, none⟩ = some (.slice oo i oc) ∧ w3.frozen? ⟨w.heap.size, 0, none⟩ = false ∧ Hid (∃ v, All (blkC w.heap.size [v] 72 :: rowC 51 3 v (i + 1) (flatX ((List.range (i + 1)).map zeroX)) :: cs) (w3.setCell ⟨w.heap.size, 0, none⟩ v'))) := hid (by
        intro v' w3 hown hgr hat
        obtain ⟨o2, c2, hv'⟩ := owns_form hown
        have A3 := (A2.out.swap).rowGrow hown hgr hat
        have e1 : w3.heap[w.heap.size]? = some (.cells [.slice oo i oc].toArray 72 (0, 0)) := A3.blk (by simp)
        refine ⟨o2, c2, hv', by rw [cell_at e1]; rfl, free_at e1 0, hid ⟨v', ?_⟩⟩
        have A4 := A3.swap.setBlk 0 v'
        have e2 : flatX ((List.range (i + 1)).map zeroX) = flatX ((List.range i).map zeroX) ++ [.int .i64 (i : Int), .int .i64 0, .slice none 0 0] := by
          rw [List.range_succ, List.map_append, flatX_append]
          rfl
        rw [e2]
        simpa using A4)
      clear hA hb hrow0 hone hH A1
      go_wp2_with (at_builtin; refine wpList_append_own_at _ rfl (.tmp 23) (.tmp 26) 37 rfl 0 51 i1 (.agg #[.int .i64 0, .int .i64 0, .slice none 0 0]) 3 40 Try.underlying37 hi1 hz0 hz1 hz2 rfl (by decide) _ _ _ rfl hrow.out ⟨wr.heap.size, 0, none⟩ 1 1 [.int .i64 (i : Int), .int .i64 0, .slice none 0 0] rfl rfl hcell.out HO.out (by have := hi64.out; unfold maxLen; omega) (by have := hi64.out; omega) (by omega) ?_; intro v' w3 hown hgr hnil hat; obtain ⟨o2, c2, hv2, k1, k2, HF⟩ := KEY.out v' w3 hown hgr hat; subst hv2; clear hown hgr hnil hat)
      go_roundw
      case rel => exact ⟨i + 1, rfl, by omega, HF⟩
      case measure => simp only; omega
    · have ei : Hid (i = n) := hid (by omega)
      obtain ⟨v, hA⟩ := hH.out
      have FIN : Hid (All (refL w.heap.size v ((List.range n).map zeroX) ++ cs) wr) := hid (by
        rw [ei.out] at hA
        have h3 : All ((((List.range n).map zeroX).map datC) ++ (blkC w.heap.size [v] 72 :: rowC 51 3 v n (flatX ((List.range n).map zeroX)) :: cs)) wr := hA.zeros (List.range n)
        refine h3.perm ?_
        simp only [refL, List.cons_append, List.length_map, List.length_range]
        exact List.perm_middle.trans (.cons _ List.perm_middle))
      clear hA hH A1 ei
      go_wp2
      go_ret2
      exact ⟨w.heap.size, rfl, v, FIN.out⟩

end Go.Proofs.Ytaomhahmpbfjhaa

namespace Go.Proofs.Ytaomhahmpbfjhaa
open Go.RowKit
set_option linter.unusedVariables false

theorem All.setRow1 {e : TypeId} {size n g c k : Nat} {vs : List Value} {cs : List Comp} {w : World} (h : All (rowC e size (.slice (some ⟨g, 0, none⟩) n c) n vs :: cs) w) (hk : k < vs.length) (u : Value) : All (rowC e size (.slice (some ⟨g, 0, none⟩) n c) n (vs.set k u) :: cs) (w.setCell ⟨g, k, none⟩ u) := by
  have ho : w.ownsRow 0 e size (.slice (some ⟨g, 0, none⟩) n c) n vs := h.1.2.1
  refine h.turn ((Fr.setCell w g k u).mono (fun x hx => by simpa [rowC, Value.ownBlock] using hx)) (rowC_good _ _ _ _ _) ?_ (fun x hx => Or.inl hx) (fun x hx => by simpa [World.setCell] using h.1.2.2 x hx)
  refine ⟨by simpa using ho.1, ?_⟩
  rcases ho.2 with ⟨e1, _⟩ | ⟨g', cap, cur, e1, hg, hgg, hn, hm, hcs, ht⟩
  · cases e1
  · simp only [Value.slice.injEq, Option.some.injEq, Addr.mk.injEq] at e1
    obtain ⟨⟨rfl, _⟩, _, rfl⟩ := e1
    refine Or.inr ⟨g, c, cur.setIfInBounds k u, rfl, hg, heap_setCell_same hgg u, hn, hm, by simpa using hcs, ?_⟩
    rw [Array.toList_setIfInBounds, List.take_set, ht]

theorem flatX_set : ∀ {rs : List Xs} {i : Nat} (y : Xs), i < rs.length → flatX (rs.set i y) = (((flatX rs).set (i * 3) (.int .i64 (y.num : Int))).set (i * 3 + 1) (.int .i64 (y.at_ : Int))).set (i * 3 + 2) (.slice y.ao y.len y.cap)
  | [], i, y, h => by simp at h
  | x :: rs, 0, y, h => by simp [flatX, Xs.cells]
  | x :: rs, i + 1, y, h => by
    have ih := flatX_set (rs := rs) (i := i) y (by simpa using h)
    simp only [flatX, List.set_cons_succ, List.flatMap_cons] at ih ⊢
    rw [ih]
    have e : (i + 1) * 3 = i * 3 + 3 := by omega
    rw [e]
    simp [Xs.cells]

theorem flatX_len (rs : List Xs) : (flatX rs).length = rs.length * 3 := by
  induction rs with
  | nil => rfl
  | cons x rs ih => simp only [flatX, List.flatMap_cons, List.length_append, List.length_cons] at ih ⊢; rw [ih]; simp [Xs.cells]; omega

theorem RS.set {n i : Nat} {rs : List Xs} {S : Sheets} (h : RS n rs S) {y : Xs} (hy : y.num = i) (hi : i < n) : RS n (rs.set i y) (setS S i (y.at_, y.bs)) := by
  refine ⟨by simp [h.len], fun j z hz => ?_⟩
  by_cases e : j = i
  · subst e
    rw [List.getElem?_set_self (by rw [h.len]; exact hi)] at hz
    cases hz
    exact ⟨hy, by simp [setS]⟩
  · rw [List.getElem?_set_ne (fun h => e h.symm)] at hz
    have := h.each j z hz
    exact ⟨this.1, by simp only [setS, if_neg e]; exact this.2⟩

/-- The document's book has these sheets. -/
def RHas (R n : Nat) (cs : List Comp) (S : Sheets) (w : World) : Prop := ∃ v rs, All (refL R v rs ++ cs) w ∧ RS n rs S

/-- A sheet of the document's book is another. -/
theorem RHas.store {R n i gr c : Nat} {rs : List Xs} {cs : List Comp} {S : Sheets} {w : World} {y : Xs} (hA : All (datC y :: (refL R (.slice (some ⟨gr, 0, none⟩) rs.length c) rs ++ cs)) w) (hR : RS n rs S) (hy : y.num = i) (hi : i < n) :
    RHas R n cs (setS S i (y.at_, y.bs)) (((w.setCell ⟨gr, i * 3, none⟩ (.int .i64 (y.num : Int))).setCell ⟨gr, i * 3 + 1, none⟩ (.int .i64 (y.at_ : Int))).setCell ⟨gr, i * 3 + 2, none⟩ (.slice y.ao y.len y.cap)) := by
  have hil : i < rs.length := by rw [hR.len]; exact hi
  refine ⟨.slice (some ⟨gr, 0, none⟩) rs.length c, rs.set i y, ?_, hR.set hy hi⟩
  have p1 : (datC y :: (refL R (.slice (some ⟨gr, 0, none⟩) rs.length c) rs ++ cs)).Perm (rowC 51 3 (.slice (some ⟨gr, 0, none⟩) rs.length c) rs.length (flatX rs) :: datC y :: blkC R [.slice (some ⟨gr, 0, none⟩) rs.length c] 72 :: (rs.map datC ++ cs)) := by
    simp only [refL, List.cons_append]
    exact ((List.Perm.cons _ (List.Perm.swap _ _ _)).trans (List.Perm.swap _ _ _))
  have A1 := hA.perm p1
  have A2 := A1.setRow1 (k := i * 3) (by rw [flatX_len]; omega) (.int .i64 (y.num : Int))
  have A3 := A2.setRow1 (k := i * 3 + 1) (by rw [List.length_set, flatX_len]; omega) (.int .i64 (y.at_ : Int))
  have A4 := A3.setRow1 (k := i * 3 + 2) (by rw [List.length_set, List.length_set, flatX_len]; omega) (.slice y.ao y.len y.cap)
  rw [← flatX_set y hil] at A4
  -- the old bytes are let go
  have hsub : ∃ l1 l2, rs.map datC = l1 ++ datC rs[i] :: l2 ∧ (rs.set i y).map datC = l1 ++ datC y :: l2 := by
    refine ⟨(rs.take i).map datC, (rs.drop (i + 1)).map datC, ?_, ?_⟩
    · rw [← List.map_cons, ← List.map_append]
      congr 1
      simp
    · rw [← List.map_cons, ← List.map_append, List.set_eq_take_append_cons_drop, if_pos hil]
  obtain ⟨l1, l2, e1, e2⟩ := hsub
  rw [e1] at A4
  simp only [refL, List.length_set, e2, List.cons_append, List.append_assoc]
  have A5 : All (rowC 51 3 (.slice (some ⟨gr, 0, none⟩) rs.length c) rs.length (flatX (rs.set i y)) :: datC y :: blkC R [.slice (some ⟨gr, 0, none⟩) rs.length c] 72 :: (l1 ++ (l2 ++ cs))) _ := A4.sublist (.cons_cons _ (.cons_cons _ (.cons_cons _ (by
    rw [List.append_assoc]
    exact List.Sublist.append (.refl _) (.cons _ (.refl _))))))
  refine A5.perm ?_
  refine (List.Perm.cons _ (List.Perm.swap _ _ _)).trans ((List.Perm.swap _ _ _).trans (.cons _ (.cons _ ?_)))
  exact List.perm_middle.symm

set_option maxRecDepth 100000 in
set_option maxHeartbeats 4000000 in
theorem rPut_all {w : World} {R n : Nat} {cs : List Comp} {S : Sheets} {num at_ : Int} {s : Value} {l : List UInt8} (hH : RHas R n cs S w) (hn : n ≤ 64) (hcap : ∀ i, (S i).1 ≤ 1099511627776 ∧ (S i).2.length ≤ 2304) (hs : Reads w s l) :
    Calls Try.prog 13 #[.pointer (some ⟨R, 0, none⟩), .int .i64 num, .int .i64 at_, s] w fun e w' => e = .returned (.int .i64 (putE n S num at_ l)) ∧ RHas R n cs (putS n S num at_ l) w' := by
  obtain ⟨v, rs, hA, hR⟩ := hH
  have hb : w.heap[R]? = some (.cells [v].toArray 72 (0, 0)) := hA.blk (by simp [refL])
  have hrow : w.ownsRow 0 51 3 v rs.length (flatX rs) := (hA.mem (c := rowC 51 3 v rs.length (flatX rs)) (by simp [refL])).2.1
  obtain ⟨ro, rc, rfl⟩ := owns_form hrow
  have c0 : w.cell? ⟨R, 0, none⟩ = some (.slice ro n rc) := by rw [cell_at hb, ← hR.len]; rfl
  have same : RHas R n cs S w := ⟨_, rs, hA, hR⟩
  have lR := lt_of_cell c0
  obtain ⟨ao, c, rfl⟩ := hs.form
  by_cases c1 : ¬ (0 ≤ num ∧ num < n)
  · have E : putE n S num at_ l = 61 := by simp only [putE, if_pos c1]
    have F : putS n S num at_ l = S := by simp only [putS, E]; rfl
    rw [E, F]
    have same := hid same
    clear hA hR hb hrow hs hcap hn E F
    generalize l.length = ll at *
    by_cases c2 : num < 0
    · have d1 : decide (num < 0) = true := by simpa using c2
      clear c1
      go_enter Try.func13, Try.ntmps13
      go_wp2
      go_ret
      exact ⟨rfl, same.out⟩
    · have d1 : decide (num < 0) = false := by simpa using c2
      have d2 : num ≥ (n : Int) := by omega
      clear c1
      go_enter Try.func13, Try.ntmps13
      go_wp2
      go_ret
      exact ⟨rfl, same.out⟩
  have c1 := Classical.not_not.1 c1
  obtain ⟨m, rfl⟩ : ∃ m : Nat, num = m := ⟨num.toNat, by omega⟩
  have hm : m < n := by omega
  have d1 : ¬ (m : Int) < 0 := by omega
  have d2 : ¬ (m : Int) ≥ (n : Int) := by omega
  by_cases c2 : ¬ (1 ≤ at_ ∧ at_ ≤ 1099511627776)
  · have E : putE n S m at_ l = 62 := by simp only [putE, if_neg (show ¬ ¬ (0 ≤ (m : Int) ∧ (m : Int) < n) from fun h => h c1), if_pos (show ¬ (1 ≤ at_ ∧ at_ ≤ 1099511627776) ∨ at_ < lastS S n from Or.inl c2)]
    have F : putS n S m at_ l = S := by simp only [putS, E]; rfl
    rw [E, F]
    have same := hid same
    clear hA hR hb hrow hs hcap hn E F c1 hm
    generalize l.length = ll at *
    by_cases c3 : at_ < 1
    · have d3 : decide (at_ < 1) = true := by simpa using c3
      clear c2
      go_enter Try.func13, Try.ntmps13
      go_wp2
      go_ret
      exact ⟨rfl, same.out⟩
    · have d3 : decide (at_ < 1) = false := by simpa using c3
      have d4 : at_ > 1099511627776 := by omega
      clear c2
      go_enter Try.func13, Try.ntmps13
      go_wp2
      go_ret
      exact ⟨rfl, same.out⟩
  have c2 := Classical.not_not.1 c2
  obtain ⟨a, rfl⟩ : ∃ a : Nat, at_ = a := ⟨at_.toNat, by omega⟩
  have d3 : ¬ (a : Int) < 1 := by omega
  have d4 : ¬ (a : Int) > 1099511627776 := by omega
  have LA := hid (rLast_all hA hR hn (fun i => (hcap i).1))
  by_cases c3 : (a : Int) < (lastS S n : Int)
  · have E : putE n S m a l = 62 := by simp only [putE, if_neg (show ¬ ¬ (0 ≤ (m : Int) ∧ (m : Int) < n) from fun h => h c1), if_pos (show ¬ (1 ≤ (a : Int) ∧ (a : Int) ≤ 1099511627776) ∨ (a : Int) < lastS S n from Or.inr c3)]
    have F : putS n S m a l = S := by simp only [putS, E]; rfl
    rw [E, F]
    have same := hid (fun w' (hb : Below w.heap.size w w') => (⟨_, rs, hA.later hb, hR⟩ : RHas R n cs S w'))
    generalize lastS S n = la at *
    clear hA hR hb hrow hs hcap hn E F c1 hm c2
    generalize l.length = ll at *
    go_enter Try.func13, Try.ntmps13
    go_wp2_with (go_at_call 31; refine LA.out.mono ?_; rintro e w' ⟨rfl, hb'⟩)
    go_ret
    exact ⟨rfl, same.out _ hb'⟩
  have n62 : ¬ (¬ (1 ≤ (a : Int) ∧ (a : Int) ≤ 1099511627776) ∨ (a : Int) < lastS S n) := by
    rintro (h | h)
    · exact h c2
    · exact c3 h
  by_cases c4 : 2304 < l.length
  · have E : putE n S m a l = 63 := by simp only [putE, if_neg (show ¬ ¬ (0 ≤ (m : Int) ∧ (m : Int) < n) from fun h => h c1), if_neg n62, if_pos c4]
    have F : putS n S m a l = S := by simp only [putS, E]; rfl
    rw [E, F]
    have c4 : (2304 : Int) < (l.length : Int) := by omega
    have same := hid (fun w' (hb : Below w.heap.size w w') => (⟨_, rs, hA.later hb, hR⟩ : RHas R n cs S w'))
    generalize lastS S n = la at *
    clear hA hR hb hrow hs hcap hn E F c1 hm c2 n62
    generalize l.length = ll at *
    go_enter Try.func13, Try.ntmps13
    go_wp2_with (go_at_call 31; refine LA.out.mono ?_; rintro e w' ⟨rfl, hb'⟩)
    go_ret
    exact ⟨rfl, same.out _ hb'⟩
  have E : putE n S m a l = 0 := by simp only [putE, if_neg (show ¬ ¬ (0 ≤ (m : Int) ∧ (m : Int) < n) from fun h => h c1), if_neg n62, if_neg c4]
  have hml : m < rs.length := by rw [hR.len]; exact hm
  obtain ⟨y, hy⟩ : ∃ y, rs[m]? = some y := ⟨_, List.getElem?_eq_getElem hml⟩
  obtain ⟨gr, rfl, hgr, x0, x1, x2⟩ := row_at hrow hy
  have hye := hR.each m y hy
  have hyb : y.bs = (S m).2 := by rw [← hye.2]
  have hmi : (m : Int) < (n : Int) := by omega
  have c4i : ¬ (2304 : Int) < (l.length : Int) := by omega
  have ydat : datC y ∈ refL R (.slice (some ⟨gr, 0, none⟩) rs.length rc) rs ++ cs := by
    simp only [refL, List.cons_append, List.mem_cons, List.mem_append, List.mem_map]
    exact .inr (.inr (.inl ⟨y, List.mem_of_getElem? hy, rfl⟩))
  have LA2 : Hid (Calls Try.prog 31 #[.pointer (some ⟨R, 0, none⟩)] w fun e w1 => e = .returned (.int .i64 (lastS S n : Int)) ∧ w1.cell? ⟨R, 0, none⟩ = some (.slice (some ⟨gr, 0, none⟩) n rc) ∧ w1.cell? ⟨gr, m * 3 + 2, none⟩ = some (.slice y.ao y.len y.cap) ∧
      Hid (Calls Try.prog 22 #[.slice y.ao y.len y.cap, .slice ao l.length c] w1 fun e w2 => e = .returned (.bool (decide ((S m).2 = l))) ∧ Hid (All (refL R (.slice (some ⟨gr, 0, none⟩) rs.length rc) rs ++ cs) w2 ∧ Reads w2 (.slice ao l.length c) l))) := hid (LA.out.mono (fun e w1 hq => by
    obtain ⟨rfl, hb1⟩ := hq
    have A1 := hA.later hb1
    have r1 : Reads w1 (.slice y.ao y.len y.cap) y.bs := Reads.of_owns (show w1.ownsRow 0 5 1 y.v y.bs.length (cellsB y.bs) from (A1.mem ydat).2.1)
    refine ⟨rfl, cell_under hb1 lR c0, cell_under hb1 hgr x2, hid ((Same_any r1 (hs.below hb1) (by rw [hyb]; have := (hcap m).2; omega) (by omega)).mono (fun e w2 hq => ?_))⟩
    obtain ⟨rfl, q, rfl⟩ := hq
    exact ⟨by rw [hyb], hid ⟨A1.drewN q, (hs.below hb1).drewN q⟩⟩))
  clear LA
  by_cases c5 : (S m).2 = l
  · have F : putS n S m a l = S := by simp only [putS, E]; rw [if_neg]; rintro ⟨_, h⟩; exact h (by simpa using c5)
    rw [E, F]
    have d5 : decide ((S m).2 = l) = true := by simpa using c5
    rw [d5] at LA2
    have same := hid (fun w' (h : All (refL R (.slice (some ⟨gr, 0, none⟩) rs.length rc) rs ++ cs) w') => (⟨_, rs, h, hR⟩ : RHas R n cs S w'))
    generalize lastS S n = la at *
    clear hA hb hrow hs hcap hn E F c1 c2 n62 hml hy x0 x1 x2 hye hyb ydat c5 d5 c4
    generalize l.length = ll at *
    go_enter Try.func13, Try.ntmps13
    go_wp2_with (first | (go_at_call 31; refine LA2.out.mono ?_; rintro e w1 ⟨rfl, k1, k2, k3⟩) | (go_at_call 22; refine k3.out.mono ?_; rintro e w2 ⟨rfl, h2⟩))
    go_ret
    exact ⟨rfl, same.out _ h2.out.1⟩
  · have F : putS n S m a l = setS S m (a, l) := by simp only [putS, E]; rw [if_pos ⟨trivial, by simpa using c5⟩]; simp
    rw [E, F]
    have d5 : decide ((S m).2 = l) = false := by simpa using c5
    rw [d5] at LA2
    have CP : Hid (∀ w2, All (refL R (.slice (some ⟨gr, 0, none⟩) rs.length rc) rs ++ cs) w2 ∧ Reads w2 (.slice ao l.length c) l → (w2.cell? ⟨R, 0, none⟩ = some (.slice (some ⟨gr, 0, none⟩) n rc) ∧ w2.drew.cell? ⟨R, 0, none⟩ = some (.slice (some ⟨gr, 0, none⟩) n rc)) ∧ Hid (Calls Try.prog 38 #[.slice ao l.length c] w2.drew fun e w3 => ∃ o3 c3, e = .returned (.slice o3 l.length c3) ∧ w3.cell? ⟨R, 0, none⟩ = some (.slice (some ⟨gr, 0, none⟩) n rc) ∧ w3.cell? ⟨gr, m * 3, none⟩ = some (.int .i64 (y.num : Int)) ∧ w3.cell? ⟨gr, m * 3 + 1, none⟩ = some (.int .i64 (y.at_ : Int)) ∧ w3.cell? ⟨gr, m * 3 + 2, none⟩ = some (.slice y.ao y.len y.cap) ∧ w3.frozen? ⟨gr, m * 3, none⟩ = false ∧ w3.frozen? ⟨gr, m * 3 + 1, none⟩ = false ∧ w3.frozen? ⟨gr, m * 3 + 2, none⟩ = false ∧
        Hid (RHas R n cs (setS S m (a, l)) (((w3.setCell ⟨gr, m * 3, none⟩ (.int .i64 (m : Int))).setCell ⟨gr, m * 3 + 1, none⟩ (.int .i64 (a : Int))).setCell ⟨gr, m * 3 + 2, none⟩ (.slice o3 l.length c3))))) := hid (by
      rintro w2 ⟨A2, r2⟩
      have cR : w2.cell? ⟨R, 0, none⟩ = some (.slice (some ⟨gr, 0, none⟩) n rc) := by
        rw [cell_at (show w2.heap[R]? = some (.cells [.slice (some ⟨gr, 0, none⟩) rs.length rc].toArray 72 (0, 0)) from A2.blk (by simp [refL])), hR.len]; rfl
      refine ⟨⟨cR, cR⟩, hid ((copied_any r2.drew (by omega)).mono (fun e w3 hq => ?_))⟩
      obtain ⟨v3, rfl, ho3, hb3⟩ := hq
      obtain ⟨o3, c3, rfl⟩ := owns_form ho3
      have A3 := A2.drew.later hb3
      have hrow3 : w3.ownsRow 0 51 3 (.slice (some ⟨gr, 0, none⟩) rs.length rc) rs.length (flatX rs) := (A3.mem (c := rowC 51 3 (.slice (some ⟨gr, 0, none⟩) rs.length rc) rs.length (flatX rs)) (by simp [refL])).2.1
      obtain ⟨gr', e, hgr3, z0, z1, z2⟩ := row_at hrow3 hy
      cases e
      have hfree : ∀ j, w3.frozen? ⟨gr, j, none⟩ = false := by
        rcases hrow3.2 with ⟨e, _⟩ | ⟨g', cap, cur, e, _, hgg, _⟩
        · cases e
        · simp only [Value.slice.injEq, Option.some.injEq, Addr.mk.injEq] at e
          obtain ⟨⟨rfl, _⟩, _⟩ := e
          exact fun j => free_at hgg j
      refine ⟨o3, c3, rfl, ?_, z0, z1, z2, hfree _, hfree _, hfree _, hid ?_⟩
      · rw [cell_at (show w3.heap[R]? = some (.cells [.slice (some ⟨gr, 0, none⟩) rs.length rc].toArray 72 (0, 0)) from A3.blk (by simp [refL])), hR.len]; rfl
      · have A4 : All (datC ⟨m, a, o3, l.length, c3, l⟩ :: (refL R (.slice (some ⟨gr, 0, none⟩) rs.length rc) rs ++ cs)) w3 := by
          refine A2.drew.add (Fr.below hb3) (rowC_good _ _ _ _ _) (owns_zero ho3) (fun k hk => ?_)
          have hk' : (Value.slice o3 l.length c3).ownBlock = some k := by simpa [datC, rowC, Xs.v] using hk
          exact World.ownsRow.lt ho3 k hk'
        exact RHas.store (y := ⟨m, a, o3, l.length, c3, l⟩) A4 hR rfl hm)
    generalize setS S m (a, l) = S2 at *
    generalize lastS S n = la at *
    clear hA hb hrow hs hcap hn E F c1 c2 n62 hml hy x0 x1 x2 hye hyb ydat c5 d5 c4 same
    generalize l.length = ll at *
    go_enter Try.func13, Try.ntmps13
    go_wp2_with (first | (go_at_call 31; refine LA2.out.mono ?_; rintro e w1 ⟨rfl, k1, k2, k3⟩) | (go_at_call 22; refine k3.out.mono ?_; rintro e w2 ⟨rfl, h2⟩))
    obtain ⟨⟨kr, kr'⟩, CPY⟩ := CP.out w2 h2.out
    clear CP h2 k3 LA2
    go_region_law (go_simp; go_at_call 38; refine CPY.out.mono ?_; rintro e w3 ⟨o3, c3, rfl, zR, z0, z1, z2, f0, f1, f2, HF⟩)
    all_goals
      go_wp2
      go_ret
      exact ⟨rfl, HF.out⟩

end Go.Proofs.Ytaomhahmpbfjhaa
