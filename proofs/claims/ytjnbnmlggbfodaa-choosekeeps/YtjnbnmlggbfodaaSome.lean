import Derived.Test.YtjnbnmlggbfodaaApp
namespace Go.Proofs.Ytjnbnmlggbfodaa
open Go.RowKit
set_option linter.unusedVariables false

/-- Numbers that came in. -/
def IntsAt (w : World) (v : Value) (xs : List Int) : Prop := ∃ ao c, v = .slice ao xs.length c ∧ ∀ (i : Nat) (x : Int), xs[i]? = some x → ∃ g o, ao = some ⟨g, o, none⟩ ∧ g < w.heap.size ∧ w.cell? ⟨g, o + i, none⟩ = some (.int .i64 x)
theorem IntsAt.later {w w' : World} {v : Value} {xs : List Int} (h : IntsAt w v xs) (hb : Below w.heap.size w w') : IntsAt w' v xs := by
  obtain ⟨ao, c, h1, h4⟩ := h
  refine ⟨ao, c, h1, fun i x hx => ?_⟩
  obtain ⟨g, o, e, hg, hr⟩ := h4 i x hx
  exact ⟨g, o, e, Nat.lt_of_lt_of_le hg hb.size, cell_under hb hg hr⟩
theorem IntsAt.form {w : World} {v : Value} {l : List Int} (h : IntsAt w v l) : ∃ ao c, v = .slice ao l.length c := by
  obtain ⟨ao, c, h1, _⟩ := h
  exact ⟨ao, c, h1⟩
theorem IntsAt.at {w W : World} {ao : Option Addr} {n c : Nat} {l : List Int} (h : IntsAt w (.slice ao n c) l) (hb : Below w.heap.size w W) {i : Nat} {x : Int} (hx : l[i]? = some x) : ∃ g o, ao = some ⟨g, o, none⟩ ∧ W.cell? ⟨g, o + i, none⟩ = some (.int .i64 x) := by
  obtain ⟨ao', c', e, h1⟩ := h
  simp only [Value.slice.injEq] at e
  obtain ⟨rfl, _, _⟩ := e
  obtain ⟨g, o, rfl, hg, hc⟩ := h1 i x hx
  exact ⟨g, o, rfl, cell_under hb hg hc⟩

theorem BalsAt.take {w : World} {a : Addr} {n c : Nat} {l : List Bal} (h : BalsAt w (.slice (some a) n c) l) {i : Nat} (hi : i ≤ l.length) : BalsAt w (.slice (some a) i c) (l.take i) := by
  obtain ⟨ao, c', e, h1, h2, h3⟩ := h
  simp only [Value.slice.injEq] at e
  obtain ⟨rfl, rfl, rfl⟩ := e
  refine ⟨some a, c, by rw [List.length_take, Nat.min_eq_left hi], by rw [List.length_take]; omega, (fun h => by cases h), fun j x hx => ?_⟩
  rw [List.getElem?_take] at hx
  split at hx
  · exact h3 j x hx
  · cases hx
theorem BalsAt.drop {w : World} {g o : Nat} {n c : Nat} {l : List Bal} (h : BalsAt w (.slice (some ⟨g, o, none⟩) n c) l) {i : Nat} (hi : i ≤ l.length) : BalsAt w (if c = i then .slice (some ⟨g, o, none⟩) 0 0 else .slice (some ⟨g, o + i * 4, none⟩) (n - i) (c - i)) (l.drop i) := by
  obtain ⟨ao, c', e, h1, h2, h3⟩ := h
  simp only [Value.slice.injEq] at e
  obtain ⟨rfl, rfl, rfl⟩ := e
  split
  · rename_i hc
    subst hc
    have : l.drop c = [] := List.drop_eq_nil_of_le (by omega)
    rw [this]
    exact ⟨_, _, rfl, by simp, (fun h => by cases h), fun i x hx => by simp at hx⟩
  · refine ⟨_, _, by rw [List.length_drop], by rw [List.length_drop]; omega, (fun h => by cases h), fun j x hx => ?_⟩
    rw [List.getElem?_drop] at hx
    obtain ⟨g', o', e, hg, hr⟩ := h3 _ x hx
    cases e
    refine ⟨g, _, rfl, hg, fun q u hu => ?_⟩
    have := hr q u hu
    rwa [show o + (i + j) * 4 + q = o + i * 4 + j * 4 + q by omega] at this

theorem WitsAt.take {w : World} {a : Addr} {n c : Nat} {l : List Wit} (h : WitsAt w (.slice (some a) n c) l) {i : Nat} (hi : i ≤ l.length) : WitsAt w (.slice (some a) i c) (l.take i) := by
  obtain ⟨ao, c', e, h1, h2, h3⟩ := h
  simp only [Value.slice.injEq] at e
  obtain ⟨rfl, rfl, rfl⟩ := e
  refine ⟨some a, c, by rw [List.length_take, Nat.min_eq_left hi], by rw [List.length_take]; omega, (fun h => by cases h), fun j x hx => ?_⟩
  rw [List.getElem?_take] at hx
  split at hx
  · exact h3 j x hx
  · cases hx
theorem WitsAt.drop {w : World} {g o : Nat} {n c : Nat} {l : List Wit} (h : WitsAt w (.slice (some ⟨g, o, none⟩) n c) l) {i : Nat} (hi : i ≤ l.length) : WitsAt w (if c = i then .slice (some ⟨g, o, none⟩) 0 0 else .slice (some ⟨g, o + i * 3, none⟩) (n - i) (c - i)) (l.drop i) := by
  obtain ⟨ao, c', e, h1, h2, h3⟩ := h
  simp only [Value.slice.injEq] at e
  obtain ⟨rfl, rfl, rfl⟩ := e
  split
  · rename_i hc
    subst hc
    have : l.drop c = [] := List.drop_eq_nil_of_le (by omega)
    rw [this]
    exact ⟨_, _, rfl, by simp, (fun h => by cases h), fun i x hx => by simp at hx⟩
  · refine ⟨_, _, by rw [List.length_drop], by rw [List.length_drop]; omega, (fun h => by cases h), fun j x hx => ?_⟩
    rw [List.getElem?_drop] at hx
    obtain ⟨g', o', e, hg, hr⟩ := h3 _ x hx
    cases e
    refine ⟨g, _, rfl, hg, fun q u hu => ?_⟩
    have := hr q u hu
    rwa [show o + (i + j) * 3 + q = o + i * 3 + j * 3 + q by omega] at this

/-- Which one is picked. -/
def pkI (xs : List Int) (k n : Nat) : Nat := match xs[k]? with | some x => (am x n).toNat | none => 0
theorem pkI_lt {xs : List Int} {k n : Nat} (h : 0 < n) : pkI xs k n < n := by
  unfold pkI
  split
  · rename_i x _
    have h1 := Int.emod_nonneg x (b := (n : Int)) (by omega)
    have h2 := Int.emod_lt_of_pos x (b := (n : Int)) (by omega)
    unfold am
    rw [if_neg (by omega)]
    omega
  · exact h
/-- What is left and what was picked. -/
def smS (l : List Bal) (xs : List Int) : Nat → List Bal × List Bal
  | 0 => (l, [])
  | k + 1 => ((smS l xs k).1.eraseIdx (pkI xs k (smS l xs k).1.length), (smS l xs k).2 ++ ((smS l xs k).1[pkI xs k (smS l xs k).1.length]?).toList)
theorem smS_len {l : List Bal} {xs : List Int} : ∀ {k : Nat}, k ≤ l.length → (smS l xs k).1.length = l.length - k ∧ (smS l xs k).2.length = k
  | 0, _ => ⟨by simp [smS], rfl⟩
  | k + 1, h => by
    obtain ⟨h1, h2⟩ := smS_len (l := l) (xs := xs) (k := k) (by omega)
    have hp := pkI_lt (xs := xs) (k := k) (n := (smS l xs k).1.length) (by omega)
    constructor
    · show ((smS l xs k).1.eraseIdx _).length = _
      rw [List.length_eraseIdx_of_lt hp, h1]
      omega
    · show ((smS l xs k).2 ++ _).length = _
      rw [List.length_append, h2, List.getElem?_eq_getElem hp]
      rfl
theorem erase_perm : ∀ {l : List Bal} {i : Nat} {x : Bal}, l[i]? = some x → (x :: l.eraseIdx i).Perm l
  | a :: l, 0, x, h => by
    simp at h
    subst h
    exact List.Perm.refl _
  | a :: l, i + 1, x, h => by
    have ih := erase_perm (l := l) (i := i) (x := x) (by simpa using h)
    exact (List.Perm.swap a x _).trans (ih.cons a)
theorem smS_perm {l : List Bal} {xs : List Int} : ∀ {k : Nat}, k ≤ l.length → ((smS l xs k).2 ++ (smS l xs k).1).Perm l
  | 0, _ => by simp [smS]
  | k + 1, h => by
    have ih := smS_perm (l := l) (xs := xs) (k := k) (by omega)
    have h1 := (smS_len (l := l) (xs := xs) (k := k) (by omega)).1
    have hp := pkI_lt (xs := xs) (k := k) (n := (smS l xs k).1.length) (by omega)
    obtain ⟨x, hx⟩ : ∃ x, (smS l xs k).1[pkI xs k (smS l xs k).1.length]? = some x := ⟨_, List.getElem?_eq_getElem hp⟩
    have e := erase_perm hx
    show (((smS l xs k).2 ++ ((smS l xs k).1[pkI xs k (smS l xs k).1.length]?).toList) ++ (smS l xs k).1.eraseIdx _).Perm l
    rw [hx, List.append_assoc]
    exact (e.append_left _).trans ih

/-- The rest without one. -/
theorem rest_any {W : World} {g m c : Nat} {r : List Bal} {cs : List Comp} (A : All (rowB (.slice (some ⟨g, 0, none⟩) m c) r :: cs) W) (hm : r.length = m) (h7 : m ≤ 7) {i : Nat} (hi : i < m) :
    ∃ ao1 c1 w1 ao2 c2 w2, (Builtin.append_ #[22, 22] 22 #[.slice none 0 0, .slice (some ⟨g, 0, none⟩) i c]).run Try.prog W = .ok (.slice ao1 i c1) w1 ∧
      (Builtin.append_ #[22, 22] 22 #[.slice ao1 i c1, if c = i + 1 then .slice (some ⟨g, 0, none⟩) 0 0 else .slice (some ⟨g, (i + 1) * 4, none⟩) (m - (i + 1)) (c - (i + 1))]).run Try.prog w1 = .ok (.slice ao2 (m - 1) c2) w2 ∧
      All (rowB (.slice ao2 (m - 1) c2) (r.eraseIdx i) :: cs) w2 := by
  have hs := A.readsB
  have ht := hs.take (i := i) (by omega)
  obtain ⟨ao1, c1, w1, hr1, A1⟩ := copyB A ht (by rw [List.length_take]; omega)
  have hd := (A1.tail.readsB).drop (i := i + 1) (by omega)
  rw [Nat.zero_add] at hd
  obtain ⟨ao2, c2, w2, hr2, A2⟩ := appB A1 hd (by rw [List.length_take, List.length_drop]; omega)
  have e1 : (r.take i).length = i := by rw [List.length_take]; omega
  have e2 : (r.take i ++ r.drop (i + 1)).length = m - 1 := by rw [List.length_append, List.length_take, List.length_drop]; omega
  rw [e1] at hr1 hr2
  rw [e2] at hr2
  refine ⟨ao1, c1, w1, ao2, c2, w2, hr1, hr2, ?_⟩
  have A3 : All (rowB (.slice ao2 (m - 1) c2) (r.take i ++ r.drop (i + 1)) :: rowB (.slice (some ⟨g, 0, none⟩) m c) r :: cs) w2 := by rw [← e2]; exact A2
  rw [← List.eraseIdx_eq_take_drop_succ] at A3
  exact ⟨A3.1, fun d hd => A3.2.1 d (by simp [hd]), A3.2.2.tail⟩
theorem rowB_at {v : Value} {r : List Bal} {cs : List Comp} {W : World} (A : All (rowB v r :: cs) W) (h : 0 < r.length) : ∃ g c, v = .slice (some ⟨g, 0, none⟩) r.length c ∧ r.length ≤ c ∧ g < W.heap.size := by
  rcases A.1.2.1.2 with ⟨_, e⟩ | ⟨g, cap, cur, rfl, _, hg, hn, hm, hcs, ht⟩
  · omega
  · exact ⟨g, cap, rfl, by omega, (Array.getElem?_eq_some_iff.1 hg).1⟩
theorem BalsAt.one (w : World) (x : Bal) : BalsAt (w.alloc (.cells x.cells.toArray 27)) (.slice (some ⟨w.heap.size, 0, none⟩) 1 1) [x] :=
  BalsAt.of_owns (base := 0) ⟨by rw [flatB_len], Or.inr ⟨w.heap.size, 1, x.cells.toArray, rfl, Nat.zero_le _, heap_alloc_new w _, Nat.le_refl _, by decide, rfl, by simp [flatB, Bal.cells]⟩⟩

set_option maxHeartbeats 3200000 in
set_option maxRecDepth 1000000 in
theorem some_any {w : World} {s p : Value} {l : List Bal} {xs : List Int} (hs : BalsAt w s l) (hl : l.length ≤ 7) (hp : IntsAt w p xs) (hxl : xs.length ≤ 140737488351232) {many : Nat} (hm : many ≤ l.length) : Calls Try.prog 14 #[s, .int .i64 (many : Int), p] w fun e w' => ∃ ao c, e = .returned (.slice ao many c) ∧ BalsAt w' (.slice ao many c) (smS l xs many).2 ∧ Below w.heap.size w w' := by
  obtain ⟨ao2, c2, w1, HR, A1⟩ := copyB (All.came w) hs (by omega)
  obtain ⟨ao, c, rfl⟩ := hs.form
  have HR := hid HR
  have A1 : Hid (All [rowB (.slice ao2 l.length c2) l, rowB (.slice none 0 0) [], inC w] w1) := hid ((A1.addRow0 (e := 27) (size := 4)).swap)
  have HP := hid hp
  obtain ⟨pa, pc, rfl⟩ := hp.form
  clear hs hp
  have HLen := hid (fun k (h : k ≤ many) => smS_len (l := l) (xs := xs) (k := k) (by omega))
  have HXN : Hid (∀ i, i < xs.length → ∃ x, Hid (xs[i]? = some x)) := hid (fun i h => ⟨_, hid (List.getElem?_eq_getElem h)⟩)
  have HXO : Hid (∀ i, ¬ i < xs.length → xs[i]? = none) := hid (fun i h => List.getElem?_eq_none (by omega))
  generalize hml : l.length = m at *
  generalize hnl : xs.length = n at *
  clear hml hnl
  go_enter Try.func14, Try.ntmps14
  go_upto_region 2 with (at_builtin; refine wpList_append_run rfl _ (.tmp 11) 22 rfl _ _ _ _ rfl rfl HR.out ?_)
  clear HR
  go_wp2
  go_loopw [7, 8, 9] (fun rv ov kv wr => ∃ (k : Nat), k ≤ many ∧ kv = .int .i64 (k : Int) ∧ Hid (All [rowB rv (smS l xs k).1, rowB ov (smS l xs k).2, inC w] wr)) (fun _ _ kv _ => many - (intOf kv).toNat)
  case atStart => exact ⟨0, by omega, rfl, A1⟩
  case round =>
    clear A1
    obtain ⟨k, hk, rfl, A0⟩ := hrel
    obtain ⟨hrl, hql⟩ := HLen.out k hk
    obtain ⟨r, hrr⟩ : ∃ r, Hid ((smS l xs k).1 = r) := ⟨_, hid rfl⟩
    obtain ⟨q, hqq⟩ : ∃ q, Hid ((smS l xs k).2 = q) := ⟨_, hid rfl⟩
    rw [hrr.out] at A0 hrl
    rw [hqq.out] at A0 hql
    by_cases hkm : k < many
    · obtain ⟨g, c0, rfl, hc0, hg⟩ := rowB_at A0.out (by omega)
      obtain ⟨qa, qc, rfl, _⟩ := ownB_form A0.out.tail.1.2.1
      have hrl := hid hrl
      have hql := hid hql
      rw [hrl.out] at A0 hc0 ⊢
      rw [hql.out] at A0 ⊢
      have l1 : decide ((k : Int) < (many : Int)) = true := decide_eq_true (by omega)
      have l2 : (k : Int) < (many : Int) := by omega
      go_upto_if 21 with fail
      go_cut [10] (fun iv wx => ∃ (i : Nat) (wy : World), wy = wx ∧ iv = .int .i64 (i : Int) ∧ Hid (pkI xs k (m - k) = i) ∧ Hid (All [rowB (.slice (some ⟨g, 0, none⟩) (m - k) c0) r, rowB (.slice qa k qc) q, inC w] wy))
      case first =>
        by_cases hkn : k < n
        · obtain ⟨y, hy⟩ := HXN.out k hkn
          obtain ⟨i, hi⟩ : ∃ i : Nat, am y ((m - k : Nat) : Int) = (i : Int) := ⟨(am y ((m - k : Nat) : Int)).toNat, by
            have h1 := Int.emod_nonneg y (b := ((m - k : Nat) : Int)) (by omega)
            unfold am
            rw [if_neg (by omega)]
            omega⟩
          have EI : Hid (pkI xs k (m - k) = i) := hid (by unfold pkI; rw [hy.out]; simp only [hi]; omega)
          have C12 := hid (fun w => among_any (w := w) (i := y) (n := ((m - k : Nat) : Int)) (by omega))
          rw [hi] at C12
          clear hi
          obtain ⟨pg, po, rfl, p0⟩ := HP.out.at (A0.out.into (w0 := w) (by simp)) hy.out
          have l3 : decide ((k : Int) < (n : Int)) = true := decide_eq_true (by omega)
          have l4 : (k : Int) < (n : Int) := by omega
          have l5 : (0 : Int) ≤ (k : Int) := by omega
          go_wp2_with fail
          refine (C12.out _).mono ?_
          rintro e w3 ⟨rfl, rfl⟩
          clear p0 C12
          go_wp2_with fail
          go_meet
          exact ⟨i, _, rfl, rfl, EI, A0⟩
        · have EI : Hid (pkI xs k (m - k) = 0) := hid (by unfold pkI; rw [HXO.out k hkn])
          have l3 : decide ((k : Int) < (n : Int)) = false := decide_eq_false (by omega)
          have l4 : ¬ (k : Int) < (n : Int) := by omega
          go_wp2_with fail
          go_meet
          exact ⟨0, _, rfl, rfl, EI, A0⟩
      case rest =>
        clear A0
        obtain ⟨i, wy, rfl, rfl, EI, A0⟩ := hcut
        have hir := pkI_lt (xs := xs) (k := k) (n := m - k) (by omega)
        rw [EI.out] at hir
        obtain ⟨x, hx⟩ : ∃ x, Hid (r[i]? = some x) := ⟨_, hid (List.getElem?_eq_getElem (by rw [hrl.out]; exact hir))⟩
        have ES : Hid ((smS l xs (k + 1)).1 = r.eraseIdx i ∧ (smS l xs (k + 1)).2 = q ++ [x]) := hid (by
          have e1 := hrr.out
          have e2 := hqq.out
          have e3 := hrl.out
          refine ⟨?_, ?_⟩
          · show (smS l xs k).1.eraseIdx (pkI xs k (smS l xs k).1.length) = _
            rw [e1, e3, EI.out]
          · show (smS l xs k).2 ++ ((smS l xs k).1[pkI xs k (smS l xs k).1.length]?).toList = _
            rw [e1, e2, e3, EI.out, hx.out]
            rfl)
        obtain ⟨g', o', eg, hg', x0, x1, x2, x3⟩ := A0.out.readsB.at (Below.refl _ _) hx.out
        cases eg
        rw [Nat.zero_add] at x0 x1 x2 x3
        have A2 := A0.out.alloc (.cells x.cells.toArray 27)
        obtain ⟨ao5, c5, w5, hr5, A5⟩ := appB A2.swap (BalsAt.one wy x) (by rw [hql.out]; simp; omega)
        rw [List.length_append, hql.out] at hr5 A5
        obtain ⟨ao6, c6, w6, ao7, c7, w7, hr6, hr7, A7⟩ := rest_any A5.swap.drew hrl.out (by omega) hir
        have HR5 := hid hr5
        have HR6 := hid hr6
        have HR7 := hid hr7
        have A7 := hid A7
        clear hr5 hr6 hr7 A5 A2
        have i1 : (0 : Int) ≤ (i : Int) := by omega
        have i2 : (i : Int) < ((m - k : Nat) : Int) := by omega
        have i3 : (i : Int) ≤ (c0 : Int) := by omega
        have i4 : (i : Int) + 1 ≤ (c0 : Int) := by omega
        have i5 : (i : Int) + 1 ≤ ((m - k : Nat) : Int) := by omega
        have i6 : (i : Int) ≤ (i : Int) + 1 := by omega
        have i7 : (0 : Int) ≤ (i : Int) + 1 := by omega
        have hw : IntKind.i64.wrap ((i : Int) + 1) = (i : Int) + 1 := by rw [IntKind.wrap_i64]; omega
        have ht : ((i : Int) + 1).toNat = i + 1 := by omega
        have eW : wy.alloc (.cells #[.int .i64 x.who, .int .i64 x.nm, .int .i64 x.op, .int .i64 x.cm] 27) = wy.alloc (.cells x.cells.toArray 27) := rfl
        go_upto_region 10 with (at_builtin; refine wpList_append_run rfl _ (.tmp 34) 22 rfl _ _ _ _ rfl rfl HR5.out ?_)
        clear HR5 eW x0 x1 x2 x3
        by_cases hc : c0 = i + 1
        · rw [if_pos hc] at HR7
          have e0 : m - k - (i + 1) = 0 := by omega
          subst hc
          go_region_held3 (fun _ => True) (trivial) (first
            | (refine step_append_run (by rfl) _ (.tmp 38) 22 (by rfl) _ _ _ _ (by rfl) (by rfl) HR6.out ?_)
            | (refine step_append_run (by rfl) (.tmp 39) (.tmp 43) 22 (by rfl) _ _ _ _ (by rfl) (by rfl) HR7.out ?_))
          go_wp2
          go_roundw
          case rel => exact ⟨k + 1, by omega, by go_num, hid (by rw [ES.out.1, ES.out.2]; exact A7.out)⟩
          case measure => simp [intOf]; omega
        · rw [if_neg hc] at HR7
          go_region_held3 (fun _ => True) (trivial) (first
            | (refine step_append_run (by rfl) _ (.tmp 38) 22 (by rfl) _ _ _ _ (by rfl) (by rfl) HR6.out ?_)
            | (refine step_append_run (by rfl) (.tmp 39) (.tmp 43) 22 (by rfl) _ _ _ _ (by rfl) (by rfl) HR7.out ?_))
          go_wp2
          go_roundw
          case rel => exact ⟨k + 1, by omega, by go_num, hid (by rw [ES.out.1, ES.out.2]; exact A7.out)⟩
          case measure => simp [intOf]; omega
    · obtain rfl : k = many := by omega
      obtain ⟨qa, qc, rfl, _⟩ := ownB_form A0.out.tail.1.2.1
      have A9 := hid A0.out.tail
      have hqq2 := hqq
      rw [hql] at A9 ⊢
      have l1 : decide ((k : Int) < (k : Int)) = false := decide_eq_false (by omega)
      have hql := hid hql
      clear hrl
      go_wp2
      go_ret
      exact ⟨_, _, rfl, by rw [hqq2.out]; exact A9.out.readsB, A9.out.into (w0 := w) (by simp)⟩
end Go.Proofs.Ytjnbnmlggbfodaa
