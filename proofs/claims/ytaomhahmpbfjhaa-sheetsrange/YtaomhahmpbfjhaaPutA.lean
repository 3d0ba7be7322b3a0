import Derived.Test.YtaomhahmpbfjhaaPut
namespace Go.Proofs.Ytaomhahmpbfjhaa
open Go.RowKit Go.Sort
set_option linter.unusedVariables false

abbrev Sheets := Nat → Nat × List UInt8

/-- What Put answers. -/
def putE (n : Nat) (S : Sheets) (num at_ : Int) (l : List UInt8) : Int :=
  if ¬ (0 ≤ num ∧ num < n) then 61 else if ¬ (1 ≤ at_ ∧ at_ ≤ 1099511627776) ∨ at_ < lastS S n then 62 else if 2304 < l.length then 63 else 0

/-- One sheet is another. -/
def setS (S : Sheets) (i : Nat) (x : Nat × List UInt8) : Sheets := fun j => if j = i then x else S j

/-- What there is behind it. -/
def putS (n : Nat) (S : Sheets) (num at_ : Int) (l : List UInt8) : Sheets :=
  if putE n S num at_ l = 0 ∧ (S num.toNat).2 ≠ l then setS S num.toNat (at_.toNat, l) else S

/-- A book lies here and has these sheets; the pool has grown. -/
def Has (P : Pool) (g n : Nat) (cs : List Comp) (S : Sheets) (w : World) : Prop :=
  ∃ Q lv ps N, All (poolC Q :: blkC g (bookL n lv ps) 70 :: cs) w ∧ Bk Q n lv ps N S ∧ ∀ x ∈ P, x ∈ Q

theorem Bk.set {P Q : Pool} {n lv : Nat} {ps qs : List Nat} {N M : Nodes} {S : Sheets} (h : Bk P n lv ps N S) {num a : Nat} {v : Value} {l : List UInt8} (hn : num < n) (ha : a ≤ 1099511627776) (hl : l.length ≤ 2304) (hT : Tr Q qs M) (hO : ∀ j, 1 ≤ j → j < lv → Ord M j) (hM : ∀ j, lv ≤ j → M j = upd N (lv + num) (a, v, l) j) : Bk Q n lv qs M (setS S num (a, l)) := by
  have hlv := h.nlv
  refine ⟨hT, hO, h.pow, h.n1, h.nlv, h.lvn, fun i hi => ?_, fun i hi => ?_, fun i => ?_⟩
  · rw [hM (lv + i) (by omega)]
    unfold upd setS
    by_cases e : i = num
    · subst e; simp
    · rw [if_neg (by omega), if_neg e]; exact h.sh i hi
  · unfold setS
    rw [if_neg (by omega)]; exact h.zero i hi
  · unfold setS
    split
    · exact ⟨ha, hl⟩
    · exact h.cap i

theorem SetIs.has {P : Pool} {g n lv : Nat} {cs : List Comp} {ps : List Nat} {N : Nodes} {S : Sheets} {num a : Nat} {l : List UInt8} {w : World} (h : SetIs P g n lv cs N num a l w) (hB : Bk P n lv ps N S) (hn : num < n) (ha : a ≤ 1099511627776) (hl : l.length ≤ 2304) : Has P g n cs (setS S num (a, l)) w := by
  obtain ⟨v, Q, qs, M, hA, hT, hS, hO, hM⟩ := h
  exact ⟨Q, lv, qs, M, hA, hB.set hn ha hl hT hO hM, hS⟩

set_option maxHeartbeats 4000000 in
theorem Put_all {w : World} {g n lv : Nat} {ps : List Nat} {N : Nodes} {P : Pool} {cs : List Comp} {S : Sheets} {num at_ : Int} {s : Value} {l : List UInt8} (hA : All (poolC P :: blkC g (bookL n lv ps) 70 :: cs) w) (hB : Bk P n lv ps N S) (hs : Reads w s l) :
    Calls Try.prog 12 #[.pointer (some ⟨g, 0, none⟩), .int .i64 num, .int .i64 at_, s] w fun e w' => e = .returned (.int .i64 (putE n S num at_ l)) ∧ Has P g n cs (putS n S num at_ l) w' := by
  have hg : w.heap[g]? = some (.cells (treeL [.int .i64 (n : Int)] lv ps).toArray 70 (0, 0)) := hA.blk (by simp [bookL])
  have V := hB.tr.view (fun x hx => hA.poolIn hx) hg
  have same : Has P g n cs S w := ⟨P, lv, ps, N, hA, hB, fun x hx => hx⟩
  have hn : w.cell? ⟨g, 0, none⟩ = some (.int .i64 (n : Int)) := by rw [cell_at hg]; rfl
  have h1 := hid (has_any num hn)
  have h2 := hid (isStamp_any (w := w) at_)
  obtain ⟨ao, c, rfl⟩ := hs.form
  by_cases c1 : ¬ (0 ≤ num ∧ num < n)
  · have E : putE n S num at_ l = 61 := by simp only [putE, if_pos c1]
    have F : putS n S num at_ l = S := by simp only [putS, E]; rfl
    rw [E, F]
    have d1 : decide (0 ≤ num ∧ num < (n : Int)) = false := by simpa using c1
    rw [d1] at h1
    have same := hid same
    clear hA hB hs hg V hn c1 d1 E F
    generalize l.length = ll at *
    go_enter Try.func12, Try.ntmps12
    go_wp2_with (go_at_call 33; refine h1.out.mono ?_; rintro e w' ⟨rfl, rfl⟩)
    go_ret
    exact ⟨rfl, same.out⟩
  have c1 := Classical.not_not.1 c1
  have d1 : decide (0 ≤ num ∧ num < (n : Int)) = true := by simpa using c1
  rw [d1] at h1
  obtain ⟨m, rfl⟩ : ∃ m : Nat, num = m := ⟨num.toNat, by omega⟩
  have hm : m < n := by omega
  by_cases c2 : ¬ (1 ≤ at_ ∧ at_ ≤ 1099511627776)
  · have E : putE n S m at_ l = 62 := by simp only [putE, if_neg (show ¬ ¬ (0 ≤ (m : Int) ∧ (m : Int) < n) from fun h => h c1), if_pos (show ¬ (1 ≤ at_ ∧ at_ ≤ 1099511627776) ∨ at_ < lastS S n from Or.inl c2)]
    have F : putS n S m at_ l = S := by simp only [putS, E]; rfl
    rw [E, F]
    have d2 : decide (1 ≤ at_ ∧ at_ ≤ 1099511627776) = false := by simpa using c2
    rw [d2] at h2
    have same := hid same
    clear hA hB hs hg V hn c1 d1 E F d2 c2 hm
    generalize l.length = ll at *
    go_enter Try.func12, Try.ntmps12
    go_wp2_with (first | (go_at_call 33; refine h1.out.mono ?_; rintro e w' ⟨rfl, rfl⟩) | (go_at_call 34; refine h2.out.mono ?_; rintro e w' ⟨rfl, rfl⟩))
    go_ret
    exact ⟨rfl, same.out⟩
  have c2 := Classical.not_not.1 c2
  have d2 : decide (1 ≤ at_ ∧ at_ ≤ 1099511627776) = true := by simpa using c2
  rw [d2] at h2
  obtain ⟨a, rfl⟩ : ∃ a : Nat, at_ = a := ⟨at_.toNat, by omega⟩
  obtain ⟨p, k1, k2, _, _⟩ := V.node 1 (by omega)
  have hL := hB.last
  rw [hL] at k2
  have h3 := hid (Last_any (g := g) (p := p) (x := lastS S n) k1 k2)
  by_cases c3 : (a : Int) < (lastS S n : Int)
  · have E : putE n S m a l = 62 := by simp only [putE, if_neg (show ¬ ¬ (0 ≤ (m : Int) ∧ (m : Int) < n) from fun h => h c1), if_pos (show ¬ (1 ≤ (a : Int) ∧ (a : Int) ≤ 1099511627776) ∨ (a : Int) < lastS S n from Or.inr c3)]
    have F : putS n S m a l = S := by simp only [putS, E]; rfl
    rw [E, F]
    have d3 : decide ((a : Int) < (lastS S n : Int)) = true := by simpa using c3
    have same := hid same
    generalize lastS S n = la at *
    clear hA hB hs hg V hn c1 d1 E F d2 c2 hm k1 k2 hL
    generalize l.length = ll at *
    go_enter Try.func12, Try.ntmps12
    go_wp2_with (first | (go_at_call 33; refine h1.out.mono ?_; rintro e w' ⟨rfl, rfl⟩) | (go_at_call 34; refine h2.out.mono ?_; rintro e w' ⟨rfl, rfl⟩) | (go_at_call 18; refine h3.out.mono ?_; rintro e w' ⟨rfl, rfl⟩))
    go_ret
    exact ⟨rfl, same.out⟩
  have n62 : ¬ (¬ (1 ≤ (a : Int) ∧ (a : Int) ≤ 1099511627776) ∨ (a : Int) < lastS S n) := by
    rintro (h | h)
    · exact h c2
    · exact c3 h
  have d3 : decide ((a : Int) < (lastS S n : Int)) = false := by simpa using c3
  by_cases c4 : 2304 < l.length
  · have E : putE n S m a l = 63 := by simp only [putE, if_neg (show ¬ ¬ (0 ≤ (m : Int) ∧ (m : Int) < n) from fun h => h c1), if_neg n62, if_pos c4]
    have F : putS n S m a l = S := by simp only [putS, E]; rfl
    rw [E, F]
    have c4 : (2304 : Int) < (l.length : Int) := by omega
    have same := hid same
    generalize lastS S n = la at *
    clear hA hB hs hg V hn c1 d1 E F d2 c2 hm k1 k2 hL n62
    generalize l.length = ll at *
    go_enter Try.func12, Try.ntmps12
    go_wp2_with (first | (go_at_call 33; refine h1.out.mono ?_; rintro e w' ⟨rfl, rfl⟩) | (go_at_call 34; refine h2.out.mono ?_; rintro e w' ⟨rfl, rfl⟩) | (go_at_call 18; refine h3.out.mono ?_; rintro e w' ⟨rfl, rfl⟩))
    go_ret
    exact ⟨rfl, same.out⟩
  have E : putE n S m a l = 0 := by simp only [putE, if_neg (show ¬ ¬ (0 ≤ (m : Int) ∧ (m : Int) < n) from fun h => h c1), if_neg n62, if_neg c4]
  have hlv := hB.lv64
  have hnl := hB.nlv
  obtain ⟨q, q1, q2, q3, q4⟩ := V.node (lv + m) (by omega)
  have h4 := hid (leaf_any (g := g) (o := 1) (k := m) (p := q) (by omega) V.leaves q1)
  have hsh := hB.sh m (by omega)
  have h5 := hid (Equal_any q4 hs)
  have e5 : (N (lv + m)).2.2 = (S m).2 := by rw [← hsh]
  rw [e5] at h5
  have c4i : ¬ (2304 : Int) < (l.length : Int) := by omega
  obtain ⟨b1, b2, b3, hb⟩ : ∃ b1 b2 b3, (N (lv + m)).2.1 = .slice b1 b2 b3 := by
    obtain ⟨b1, b3, hb⟩ := q4.form
    exact ⟨_, _, _, hb⟩
  rw [hb] at q3 h5
  by_cases c5 : (S m).2 = l
  · have F : putS n S m a l = S := by simp only [putS, E]; rw [if_neg]; rintro ⟨_, h⟩; exact h (by simpa using c5)
    rw [E, F]
    have d5 : decide ((S m).2 = l) = true := by simpa using c5
    rw [d5] at h5
    have same := hid same
    generalize lastS S n = la at *
    generalize (lv + m) % 8 * 2 = r at *
    clear hA hB hs hg V hn c1 d1 E F d2 c2 hm k1 k2 hL n62 hsh e5 q1 q2 q4 hb c5 d5 hlv hnl c4
    generalize l.length = ll at *
    go_enter Try.func12, Try.ntmps12
    go_wp2_with (first | (go_at_call 33; refine h1.out.mono ?_; rintro e w' ⟨rfl, rfl⟩) | (go_at_call 34; refine h2.out.mono ?_; rintro e w' ⟨rfl, rfl⟩) | (go_at_call 18; refine h3.out.mono ?_; rintro e w' ⟨rfl, rfl⟩) | (go_at_call 36; refine h4.out.mono ?_; rintro e w' ⟨rfl, rfl⟩) | (go_at_call 35; refine h5.out.mono ?_; rintro e w' ⟨rfl, rfl⟩))
    go_ret
    exact ⟨rfl, same.out⟩
  · have F : putS n S m a l = setS S m (a, l) := by simp only [putS, E]; rw [if_pos ⟨trivial, by simpa using c5⟩]; simp
    rw [E, F]
    have d5 : decide ((S m).2 = l) = false := by simpa using c5
    rw [d5] at h5
    have h6 := hid ((set_all (num := m) (a := a) hA hB.tr hlv (by omega) hB.ord hs (by omega)).mono (fun e w' (h : _ ∧ _) => (⟨h.1, h.2.has hB hm (by omega) (by omega)⟩ : _ ∧ Has P g n cs (setS S m (a, l)) w')))
    generalize setS S m (a, l) = S2 at *
    generalize lastS S n = la at *
    generalize (lv + m) % 8 * 2 = r at *
    clear same hA hB hs hg V hn c1 d1 E F d2 c2 hm k1 k2 hL n62 hsh e5 q1 q2 q4 hb c5 d5 hlv hnl c4
    generalize l.length = ll at *
    go_enter Try.func12, Try.ntmps12
    go_wp2_with (first | (go_at_call 33; refine h1.out.mono ?_; rintro e w' ⟨rfl, rfl⟩) | (go_at_call 34; refine h2.out.mono ?_; rintro e w' ⟨rfl, rfl⟩) | (go_at_call 18; refine h3.out.mono ?_; rintro e w' ⟨rfl, rfl⟩) | (go_at_call 36; refine h4.out.mono ?_; rintro e w' ⟨rfl, rfl⟩) | (go_at_call 35; refine h5.out.mono ?_; rintro e w' ⟨rfl, rfl⟩) | (go_at_call 37; refine h6.out.mono ?_; rintro e w2 ⟨⟨v2, rfl⟩, hh⟩))
    go_ret
    exact ⟨rfl, hh⟩

end Go.Proofs.Ytaomhahmpbfjhaa
