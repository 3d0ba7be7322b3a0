import Derived.Test.YtaomhahmpbfjhaaApply
namespace Go.Proofs.Ytaomhahmpbfjhaa
open Go.RowKit
set_option linter.unusedVariables false

theorem All.sublist {cs ds : List Comp} {w : World} (hs : ds.Sublist cs) (h : All cs w) : All ds w := by
  induction hs with
  | slnil => exact trivial
  | cons a _ ih => exact ih h.2.2
  | cons_cons a hs ih => exact ⟨h.1, fun d hd => h.2.1 d (hs.subset hd), ih h.2.2⟩

theorem Last_mem {w : World} {g n lv : Nat} {ps : List Nat} {N : Nodes} {P : Pool} {cs : List Comp} {S : Sheets} (hA : All cs w) (hp : poolC P ∈ cs) (hg : blkC g (bookL n lv ps) 70 ∈ cs) (hB : Bk P n lv ps N S) : Calls Try.prog 18 #[.pointer (some ⟨g, 0, none⟩)] w fun e w' => e = .returned (.int .i64 (lastS S n : Int)) ∧ w' = w := by
  have hgb : w.heap[g]? = some (.cells (treeL [.int .i64 (n : Int)] lv ps).toArray 70 (0, 0)) := hA.blk hg
  have hpl : ∀ x ∈ P, w.heap[x.1]? = some x.2 := fun x hx => ((hA.mem hp).2.1 x hx).1
  have V := hB.tr.view hpl hgb
  obtain ⟨p, k1, k2, _, _⟩ := V.node 1 (by omega)
  rw [hB.last] at k2
  exact Last_any (g := g) (p := p) k1 k2

theorem newS_n {S : Sheets} {a n m : Nat} (hz : ∀ i, n ≤ i → S i = (0, [])) (h : n ≤ m) : newS S a (List.range m) = newS S a (List.range n) := by
  have e : List.range m = List.range n ++ (List.range (m - n)).map (n + ·) := by
    rw [← List.range_add]; congr 1; omega
  rw [e, newS_append, newS_nil (l := (List.range (m - n)).map (n + ·)) (fun i hi => by
    obtain ⟨j, _, rfl⟩ := List.mem_map.1 hi
    rw [hz (n + j) (by omega)]; simp), List.append_nil]

theorem newS_mem {S : Sheets} {a n : Nat} {k : Nat × Nat × List UInt8} (h : k ∈ newS S a (List.range n)) : k.1 < n ∧ a < (S k.1).1 ∧ k.2 = S k.1 := by
  unfold newS at h
  obtain ⟨i, hi, e⟩ := List.mem_filterMap.1 h
  by_cases hc : a < (S i).1
  · rw [if_pos hc] at e
    cases e
    exact ⟨List.mem_range.1 hi, hc, rfl⟩
  · rw [if_neg hc] at e; cases e
theorem newS_has {S : Sheets} {a n i : Nat} (hi : i < n) (h : a < (S i).1) : (i, S i) ∈ newS S a (List.range n) := by
  unfold newS
  exact List.mem_filterMap.2 ⟨i, List.mem_range.2 hi, by rw [if_pos h]⟩

theorem newS_rise (S : Sheets) (a : Nat) : ∀ n, ((newS S a (List.range n)).map (·.1)).Pairwise (· < ·)
  | 0 => by simp [newS]
  | n + 1 => by
    rw [List.range_succ, newS_append, List.map_append, List.pairwise_append]
    refine ⟨newS_rise S a n, ?_, fun x hx y hy => ?_⟩
    · unfold newS
      by_cases h : a < (S n).1 <;> simp [h]
    · obtain ⟨k, hk, rfl⟩ := List.mem_map.1 hx
      have h1 := (newS_mem hk).1
      unfold newS at hy
      by_cases h : a < (S n).1
      · simp [h] at hy; omega
      · simp [h] at hy

theorem keys_num {ys : List Xs} {l : List (Nat × Nat × List UInt8)} (h : ys.map Xs.key = l) {y : Xs} (hy : y ∈ ys) : (y.num, y.at_, y.bs) ∈ l := by
  rw [← h]; exact List.mem_map.2 ⟨y, hy, rfl⟩

theorem Fit.of_keys {S : Sheets} {a n : Nat} {ys : List Xs} (h : ys.map Xs.key = newS S a (List.range n)) (hcap : ∀ i, (S i).1 ≤ 1099511627776 ∧ (S i).2.length ≤ 2304) (hl : ∀ y ∈ ys, y.len = y.bs.length) : Fit n ys := by
  refine ⟨fun i y hy => ?_, fun i y z hy hz => ?_⟩
  · have hm := List.mem_of_getElem? hy
    obtain ⟨h1, h2, h3⟩ := newS_mem (keys_num h hm)
    have h4 := hcap y.num
    have h3 : (y.at_, y.bs) = S y.num := h3
    have h2 : a < (S y.num).1 := h2
    rw [← h3] at h2 h4
    have := hl y hm
    exact ⟨h1, by simp only at h2; omega, h4.1, by rw [this]; exact h4.2⟩
  · have hp := newS_rise S a n
    rw [← h, List.map_map] at hp
    have := List.pairwise_iff_getElem.1 hp i (i + 1) (by simp; exact (List.getElem?_eq_some_iff.1 hy).1) (by simp; exact (List.getElem?_eq_some_iff.1 hz).1) (by omega)
    simpa [(List.getElem?_eq_some_iff.1 hy).2, (List.getElem?_eq_some_iff.1 hz).2, Xs.key] using this

theorem applyS_at {S : Sheets} : ∀ (ys : List Xs) (S0 : Sheets) (i : Nat), (∀ y ∈ ys, (y.at_, y.bs) = S y.num) → applyS S0 ys i = if i ∈ ys.map Xs.num then S i else S0 i
  | [], S0, i, _ => by simp [applyS]
  | y :: ys, S0, i, h => by
    have ih := applyS_at ys (setS S0 y.num (y.at_, y.bs)) i (fun z hz => h z (by simp [hz]))
    have e : applyS S0 (y :: ys) = applyS (setS S0 y.num (y.at_, y.bs)) ys := rfl
    rw [e, ih]
    by_cases h1 : i ∈ ys.map Xs.num
    · rw [if_pos h1, if_pos (by simp only [List.map_cons, List.mem_cons]; exact .inr h1)]
    · rw [if_neg h1]
      by_cases h2 : i = y.num
      · subst h2
        rw [if_pos (by simp)]
        simp [setS, h y (by simp)]
      · rw [if_neg (by simp only [List.map_cons, List.mem_cons]; exact fun hh => hh.elim h2 h1)]
        simp [setS, h2]

/-- What was written since has a greater stamp. -/
def Mixed (S0 S : Sheets) (sc : Nat) : Prop := ∀ i, S i = S0 i ∨ sc < (S i).1

theorem Mixed.put {S0 S : Sheets} {sc n : Nat} (h : Mixed S0 S sc) {num at_ : Int} {l : List UInt8} (ha : (sc : Int) < at_) : Mixed S0 (putS n S num at_ l) sc := by
  unfold putS
  split
  · intro i
    unfold setS
    by_cases e : i = num.toNat
    · rw [if_pos e]; right; simp only; omega
    · rw [if_neg e]; exact h i
  · exact h

theorem Mixed.applied {S0 S : Sheets} {sc n : Nat} {ys : List Xs} (h : Mixed S0 S sc) (hz : ∀ i, n ≤ i → S i = (0, [])) (hle : ∀ i, (S0 i).1 ≤ sc) (hk : ys.map Xs.key = newS S sc (List.range n)) : applyS S0 ys = S := by
  funext i
  rw [applyS_at (S := S) ys S0 i (fun y hy => (newS_mem (keys_num hk hy)).2.2)]
  by_cases hc : sc < (S i).1
  · have hin : i < n := by
      rcases Nat.lt_or_ge i n with h1 | h1
      · exact h1
      · rw [hz i h1] at hc; simp at hc
    have hm := newS_has hin hc
    rw [← hk] at hm
    obtain ⟨y, hy, e⟩ := List.mem_map.1 hm
    have e1 : y.num = i := congrArg Prod.fst e
    rw [if_pos (List.mem_map.2 ⟨y, hy, e1⟩)]
  · split
    · rfl
    · rcases h i with h1 | h1
      · exact h1.symm
      · exact absurd h1 hc

theorem Bk.le_last {P : Pool} {n lv : Nat} {ps : List Nat} {N : Nodes} {S : Sheets} (hB : Bk P n lv ps N S) (i : Nat) : (S i).1 ≤ lastS S n := by
  rcases Nat.lt_or_ge i n with h | h
  · have := mx_le S 0 h
    rw [Nat.zero_add] at this
    exact this
  · rw [hB.zero i h]; simp

/-- Two books beside each other. -/
def Two (w : World) (g g2 n : Nat) (S S2 : Sheets) (wr : World) : Prop :=
  ∃ Q lv ps N lv2 ps2 N2, All [poolC Q, blkC g (bookL n lv ps) 70, blkC g2 (bookL n lv2 ps2) 70, inC w] wr ∧ Bk Q n lv ps N S ∧ Bk Q n lv2 ps2 N2 S2

theorem Two.later {w : World} {g g2 n : Nat} {S S2 : Sheets} {wr wr' : World} (h : Two w g g2 n S S2 wr) (hb : Below wr.heap.size wr wr') : Two w g g2 n S S2 wr' := by
  obtain ⟨Q, lv, ps, N, lv2, ps2, N2, A, B, B2⟩ := h
  exact ⟨Q, lv, ps, N, lv2, ps2, N2, A.later hb, B, B2⟩

theorem Two.into {w : World} {g g2 n : Nat} {S S2 : Sheets} {wr : World} (h : Two w g g2 n S S2 wr) : Below w.heap.size w wr := by
  obtain ⟨Q, lv, ps, N, lv2, ps2, N2, A, B, B2⟩ := h
  exact A.into (by simp)

theorem Two.put {w : World} {g g2 n : Nat} {S S2 : Sheets} {wr : World} {num at_ : Int} {s : Value} {l : List UInt8} (h : Two w g g2 n S S2 wr) (hs : Reads wr s l) :
    Calls Try.prog 12 #[.pointer (some ⟨g, 0, none⟩), .int .i64 num, .int .i64 at_, s] wr fun e w' => e = .returned (.int .i64 (putE n S num at_ l)) ∧ Two w g g2 n (putS n S num at_ l) S2 w' := by
  obtain ⟨Q, lv, ps, N, lv2, ps2, N2, A, B, B2⟩ := h
  refine (Put_all A B hs).mono ?_
  rintro e w' ⟨rfl, Q', lv', ps', N', A', B', hS⟩
  exact ⟨rfl, Q', lv', ps', N', lv2, ps2, N2, A', B', B2.mono hS⟩

theorem Two.last1 {w : World} {g g2 n : Nat} {S S2 : Sheets} {wr : World} (h : Two w g g2 n S S2 wr) : Calls Try.prog 18 #[.pointer (some ⟨g, 0, none⟩)] wr fun e w' => e = .returned (.int .i64 (lastS S n : Int)) ∧ w' = wr := by
  obtain ⟨Q, lv, ps, N, lv2, ps2, N2, A, B, B2⟩ := h
  exact Last_mem A (by simp) (by simp) B
theorem Two.last2 {w : World} {g g2 n : Nat} {S S2 : Sheets} {wr : World} (h : Two w g g2 n S S2 wr) : Calls Try.prog 18 #[.pointer (some ⟨g2, 0, none⟩)] wr fun e w' => e = .returned (.int .i64 (lastS S2 n : Int)) ∧ w' = wr := by
  obtain ⟨Q, lv, ps, N, lv2, ps2, N2, A, B, B2⟩ := h
  exact Last_mem (P := Q) A (by simp) (by simp) B2

theorem dats_len {ys : List Xs} {cs : List Comp} {w : World} (h : All cs w) (hd : ∀ y ∈ ys, datC y ∈ cs) : ∀ y ∈ ys, y.len = y.bs.length := fun y hy => by
  have ho : w.ownsRow 0 5 1 y.v y.bs.length (cellsB y.bs) := (h.mem (hd y hy)).2.1
  obtain ⟨a', c', e'⟩ := owns_form ho
  simp only [Xs.v, Value.slice.injEq] at e'
  exact e'.2.1

/-- What was written since is carried over. -/
theorem Two.carry {w : World} {g g2 n sc : Nat} {S S2 : Sheets} {wr : World} (h : Two w g g2 n S S2 wr) (hm : Mixed S2 S sc) (hle : ∀ i, (S2 i).1 ≤ sc) :
    Calls Try.prog 20 #[.pointer (some ⟨g, 0, none⟩), .int .i64 (sc : Int), .int .i64 (-1)] wr fun e w4 => ∃ ao k c, e = .returned (.slice ao k c) ∧ Hid (Calls Try.prog 19 #[.pointer (some ⟨g2, 0, none⟩), .slice ao k c] w4 fun e w5 => e = .returned (.int .i64 0) ∧ Two w g g2 n S S w5) := by
  obtain ⟨Q, lv, ps, N, lv2, ps2, N2, A, B, B2⟩ := h
  obtain ⟨hh, h6, rfl⟩ := B.pow
  refine (given_whole (at_ := (sc : Int)) A B h6).mono ?_
  rintro e w4 ⟨ao, c, ys, rfl, hk, A4⟩
  refine ⟨ao, ys.length, c, rfl, hid ?_⟩
  rw [B.foundAll, newS_n B.zero B.nlv, Int.toNat_natCast] at hk
  have hd : ∀ y ∈ ys, datC y ∈ (rowC 51 3 (.slice ao ys.length c) ys.length (flatX ys) :: (ys.map datC ++ [blkC g (bookL n (2 ^ hh) ps) 70, inC w])) := fun y hy => by
    simp only [List.mem_cons, List.mem_append, List.mem_map]
    exact .inr (.inl ⟨y, hy, rfl⟩)
  have A5 : All (poolC Q :: blkC g2 (bookL n lv2 ps2) 70 :: (rowC 51 3 (.slice ao ys.length c) ys.length (flatX ys) :: (ys.map datC ++ [blkC g (bookL n (2 ^ hh) ps) 70, inC w]))) w4 := by
    refine A4.perm ?_
    have p1 : (ys.map datC ++ [poolC Q, blkC g (bookL n (2 ^ hh) ps) 70, blkC g2 (bookL n lv2 ps2) 70, inC w]).Perm (poolC Q :: blkC g2 (bookL n lv2 ps2) 70 :: (ys.map datC ++ [blkC g (bookL n (2 ^ hh) ps) 70, inC w])) := by
      refine List.perm_middle.trans (.cons _ ?_)
      have : (ys.map datC ++ [blkC g (bookL n (2 ^ hh) ps) 70, blkC g2 (bookL n lv2 ps2) 70, inC w]) = (ys.map datC ++ [blkC g (bookL n (2 ^ hh) ps) 70]) ++ blkC g2 (bookL n lv2 ps2) 70 :: [inC w] := by simp
      rw [this]
      refine List.perm_middle.trans (.cons _ ?_)
      simp
    exact (List.Perm.cons _ p1).trans ((List.Perm.swap _ _ _).trans (.cons _ (List.Perm.swap _ _ _)))
  have hlen : ys.length ≤ 1000 := by
    have h1 : ys.length = (newS S sc (List.range n)).length := by rw [← hk]; simp
    have h2 : (newS S sc (List.range n)).length ≤ (List.range n).length := List.length_filterMap_le _ _
    have h3 := B.nlv
    have h4 := B.lv64
    simp at h2
    omega
  refine (Apply_ok A5 B2 (by simp) hd (Fit.of_keys hk B.cap (dats_len A5 (fun y hy => by simp only [List.mem_cons]; exact .inr (.inr (by simpa using hd y hy))))) hlen).mono ?_
  rintro e w5 ⟨rfl, Q', lv', ps', N', A', B', hS⟩
  rw [hm.applied B.zero hle hk] at B'
  refine ⟨rfl, Q', 2 ^ hh, ps, N, lv', ps', N', ?_, B.mono hS, B'⟩
  have s1 : [poolC Q', blkC g2 (bookL n lv' ps') 70, blkC g (bookL n (2 ^ hh) ps) 70, inC w].Sublist (poolC Q' :: blkC g2 (bookL n lv' ps') 70 :: (rowC 51 3 (.slice ao ys.length c) ys.length (flatX ys) :: (ys.map datC ++ [blkC g (bookL n (2 ^ hh) ps) 70, inC w]))) :=
    .cons_cons _ (.cons_cons _ (.cons _ (List.sublist_append_right _ _)))
  exact (A'.sublist s1).perm (.cons _ (List.Perm.swap _ _ _))

/-- The same sheets on both. -/
theorem Two.gets {w : World} {g g2 n i : Nat} {S : Sheets} {wr : World} (h : Two w g g2 n S S wr) (hi : i < n) :
    Calls Try.prog 21 #[.pointer (some ⟨g, 0, none⟩), .int .i64 (i : Int)] wr fun e w4 => ∃ a c, e = .returned (.tuple #[.slice a (S i).2.length c, .int .i64 ((S i).1 : Int), .int .i64 0]) ∧
      Hid (Calls Try.prog 21 #[.pointer (some ⟨g2, 0, none⟩), .int .i64 (i : Int)] w4 fun e w5 => ∃ a2 c2, e = .returned (.tuple #[.slice a2 (S i).2.length c2, .int .i64 ((S i).1 : Int), .int .i64 0]) ∧
        Hid (Calls Try.prog 22 #[.slice a (S i).2.length c, .slice a2 (S i).2.length c2] w5 fun e w6 => e = .returned (.bool true) ∧ Two w g g2 n S S w6)) := by
  obtain ⟨Q, lv, ps, N, lv2, ps2, N2, A, B, B2⟩ := h
  refine (Get_all A B hi).mono ?_
  rintro e w4 ⟨a, c, rfl, A4⟩
  refine ⟨a, c, rfl, hid ?_⟩
  have A5 : All (poolC Q :: blkC g2 (bookL n lv2 ps2) 70 :: [rowC 5 1 (.slice a (S i).2.length c) (S i).2.length (cellsB (S i).2), blkC g (bookL n lv ps) 70, inC w]) w4 := by
    refine A4.perm ?_
    exact (List.Perm.swap _ _ _).trans (.cons _ ((List.Perm.cons _ (List.Perm.swap _ _ _)).trans (List.Perm.swap _ _ _)))
  refine (Get_all A5 B2 hi).mono ?_
  rintro e w5 ⟨a2, c2, rfl, A6⟩
  refine ⟨a2, c2, rfl, hid ?_⟩
  have r1 : Reads w5 (.slice a (S i).2.length c) (S i).2 := Reads.of_owns (show w5.ownsRow 0 5 1 _ _ _ from (A6.mem (c := rowC 5 1 (.slice a (S i).2.length c) (S i).2.length (cellsB (S i).2)) (by simp)).2.1)
  have r2 : Reads w5 (.slice a2 (S i).2.length c2) (S i).2 := Reads.of_owns (show w5.ownsRow 0 5 1 _ _ _ from (A6.mem (c := rowC 5 1 (.slice a2 (S i).2.length c2) (S i).2.length (cellsB (S i).2)) (by simp)).2.1)
  refine (same_eq r1 r2 (by have := (B.cap i).2; omega)).mono ?_
  rintro e w6 ⟨rfl, q, rfl⟩
  refine ⟨rfl, Q, lv, ps, N, lv2, ps2, N2, ?_, B, B2⟩
  have s1 : [poolC Q, blkC g2 (bookL n lv2 ps2) 70, blkC g (bookL n lv ps) 70, inC w].Sublist [rowC 5 1 (.slice a2 (S i).2.length c2) (S i).2.length (cellsB (S i).2), poolC Q, blkC g2 (bookL n lv2 ps2) 70, rowC 5 1 (.slice a (S i).2.length c) (S i).2.length (cellsB (S i).2), blkC g (bookL n lv ps) 70, inC w] :=
    .cons _ (.cons_cons _ (.cons_cons _ (.cons _ (.refl _))))
  exact ((A6.sublist s1).perm (.cons _ (List.Perm.swap _ _ _))).drewN q

/-- As many on both. -/
theorem Two.counts {w : World} {g g2 n sc : Nat} {S : Sheets} {wr : World} (h : Two w g g2 n S S wr) :
    Calls Try.prog 20 #[.pointer (some ⟨g2, 0, none⟩), .int .i64 (sc : Int), .int .i64 (-1)] wr fun e w4 => ∃ ao c, e = .returned (.slice ao (newS S sc (List.range n)).length c) ∧
      Hid (Calls Try.prog 20 #[.pointer (some ⟨g, 0, none⟩), .int .i64 (sc : Int), .int .i64 (-1)] w4 fun e w5 => (∃ ao c, e = .returned (.slice ao (newS S sc (List.range n)).length c)) ∧ Below w.heap.size w w5) := by
  obtain ⟨Q, lv, ps, N, lv2, ps2, N2, A, B, B2⟩ := h
  obtain ⟨h1, h6, rfl⟩ := B.pow
  obtain ⟨h2, h62, rfl⟩ := B2.pow
  have A' := A.perm (.cons _ (List.Perm.swap _ _ _))
  refine (given_whole (at_ := (sc : Int)) A' B2 h62).mono ?_
  rintro e w4 ⟨ao, c, ys, rfl, hk, A4⟩
  rw [B2.foundAll, newS_n B2.zero B2.nlv, Int.toNat_natCast] at hk
  have hl : ys.length = (newS S sc (List.range n)).length := by rw [← hk]; simp
  refine ⟨ao, c, by rw [hl], hid ?_⟩
  have A5 := (A4.tail.rest).perm (.cons _ (List.Perm.swap _ _ _))
  refine (given_whole (at_ := (sc : Int)) A5 B h6).mono ?_
  rintro e w5 ⟨ao2, c2, zs, rfl, hk2, A6⟩
  rw [B.foundAll, newS_n B.zero B.nlv, Int.toNat_natCast] at hk2
  have hl2 : zs.length = (newS S sc (List.range n)).length := by rw [← hk2]; simp
  exact ⟨⟨ao2, c2, by rw [hl2]⟩, (A6.tail.rest).into (by simp)⟩

end Go.Proofs.Ytaomhahmpbfjhaa
