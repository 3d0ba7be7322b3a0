import Derived.Test.YtdhkdniddjnigaaGreatDoorGk
namespace Go.Proofs.YtdhkdniddjnigaaGreatDoor
open Go.RowKit
set_option linter.unusedVariables false

/-- What holds of a gate at each time. -/
structure GsI (s : Gs) (m K : Int) : Prop where
  ok : s.ok
  px : PxI s.x m s.n1 s.n2
  no0 : 0 ≤ s.no
  no1 : s.no ≤ K
  ws : ∀ q ∈ s.ws, 0 ≤ q.no ∧ q.no ≤ 4611686018427387904
  n : s.ws.length ≤ 16
theorem GsI.mono {s : Gs} {m K K' : Int} (h : GsI s m K) (hk : K ≤ K') : GsI s m K' := ⟨h.ok, h.px, h.no0, Int.le_trans h.no1 hk, h.ws, h.n⟩
theorem PxI.bg {x : Px} {m n1 n2 : Int} (h : PxI x m n1 n2) (q : Wi) (hb : bgE x q = 0) : PxI (bgX x q n1 n2) m (bg1 m n1 q) (bg2 m n2 q) := by
  obtain ⟨h1, h2, h3, h4, h5, h6, h7⟩ := h
  unfold bgE at hb
  unfold bgX bg1 bg2
  by_cases hc : q.chk = 0
  · rw [if_neg (by simp [hc])] at hb
    cases hq : q.ask with
    | false =>
      rw [hq] at hb
      simp only [Bool.false_eq_true, if_false] at hb ⊢
      have hn : x.rq.num ≠ 1099511627776 := by
        intro e
        rw [e] at hb
        split at hb <;> simp at hb
      refine ⟨h1, h2, ⟨?_, ?_⟩, h4, ⟨?_, ?_⟩, h6, h7⟩
      · show 0 ≤ x.rq.num + 1; omega
      · show x.rq.num + 1 ≤ _; omega
      · rw [Int.le_min]; omega
      · exact Int.min_le_right _ _
    | true =>
      rw [hq] at hb
      simp only [if_true] at hb ⊢
      have hn : x.qu.num ≠ 1099511627776 := by
        intro e
        rw [e] at hb
        repeat' split at hb
        all_goals first | (rename_i h; exact absurd rfl h) | omega
      refine ⟨h1, h2, h3, ⟨?_, ?_⟩, h5, ⟨?_, ?_⟩, h7⟩
      · show 0 ≤ x.qu.num + 1; omega
      · show x.qu.num + 1 ≤ _; omega
      · rw [Int.le_min]; omega
      · exact Int.min_le_right _ _
  · rw [if_pos hc] at hb; exact absurd hb hc
theorem goL_I {m K : Int} {s : Gs} (h : GsI s m K) : ∀ r : List Wi, (∀ q ∈ r, 0 ≤ q.no ∧ q.no ≤ 4611686018427387904) → r.length ≤ 16 → GsI (goL m s r).s m K ∧ (goL m s r).tl.length ≤ r.length * 300
  | [], _, _ => ⟨⟨h.ok, h.px, h.no0, h.no1, fun q hq => (by cases hq), (by show 0 ≤ 16; omega)⟩, by simp [goL]⟩
  | q :: r, hr, hl => by
    have hb := bgE_rng s.x q
    by_cases he : bgE s.x q = 0
    · rw [goL_yes he]
      refine ⟨⟨h.ok, h.px.bg q he, h.no0, h.no1, fun y hy => hr y (List.mem_cons_of_mem _ hy), by show r.length ≤ 16; simp only [List.length_cons] at hl; omega⟩, by simp⟩
    · rw [goL_no he]
      obtain ⟨h1, h2⟩ := goL_I h r (fun y hy => hr y (by simp [hy])) (by simp only [List.length_cons] at hl; omega)
      have := refL_len (hr q (by simp)).1 (hr q (by simp)).2 hb.1 (by omega)
      refine ⟨h1, ?_⟩
      simp only [List.length_append, List.length_cons]
      omega
theorem goM_I {m K : Int} {s : Gs} (h : GsI s m K) : GsI (goM m s).s m K ∧ (goM m s).tl.length ≤ 4800 := by
  unfold goM
  split
  · obtain ⟨h1, h2⟩ := goL_I h s.ws h.ws h.n
    exact ⟨h1, by have := h.n; omega⟩
  · exact ⟨h, by simp⟩
theorem hearM_I {m K : Int} {s : Gs} (h : GsI s m K) (hK : K ≤ 4611686018427387904) : GsI (hearM m s).s m K ∧ (hearM m s).tl.length ≤ 4800 := by
  have h1 := h.no1
  unfold hearM
  cases hr : readM s.tx s.long with
  | err e =>
    have := readM_err hr
    exact ⟨h, by have := refL_len (e := e) h.no0 (by omega) (by omega) (by omega); show (refL s.no e).length ≤ _; omega⟩
  | none => exact ⟨h, by simp⟩
  | wish a w o =>
    simp only
    split
    · exact ⟨h, by have := refL_len (e := 231) h.no0 (by omega) (by omega) (by omega); show (refL s.no 231).length ≤ _; omega⟩
    · rename_i h16
      refine goM_I (s := { s with ws := s.ws ++ [Wi.mk s.no a w o] }) ⟨h.ok, h.px, h.no0, h.no1, fun q hq => ?_, ?_⟩
      · rcases List.mem_append.1 hq with hq | hq
        · exact h.ws q hq
        · simp only [List.mem_cons, List.not_mem_nil, or_false] at hq
          subst hq
          exact ⟨h.no0, by show s.no ≤ _; omega⟩
      · have := h.n
        show (s.ws ++ [Wi.mk s.no a w o]).length ≤ 16
        rw [List.length_append, List.length_cons, List.length_nil]
        omega
theorem nxtM_I {m K : Int} {s : Gs} (h : GsI s m K) : GsI (nxtM s) m (K + 1) :=
  ⟨⟨fun _ => rfl, by simp [nxtM]⟩, h.px, by have := h.no0; show 0 ≤ s.no + 1; omega, by have := h.no1; show s.no + 1 ≤ _; omega, h.ws, h.n⟩
theorem addM_I {m K : Int} {s : Gs} (h : GsI s m K) (p : List UInt8) : GsI (addM s p) m K := by
  refine ⟨addM_ok h.ok p, ?_, ?_, ?_, ?_, ?_⟩ <;> (unfold addM; split <;> first | exact h.px | exact h.no0 | exact h.no1 | exact h.ws | exact h.n)
theorem addM_fields (s : Gs) (p : List UInt8) : (addM s p).no = s.no ∧ (addM s p).uw = s.uw ∧ (addM s p).ws = s.ws ∧ (addM s p).x = s.x ∧ (addM s p).n1 = s.n1 ∧ (addM s p).n2 = s.n2 := by
  unfold addM
  split <;> exact ⟨rfl, rfl, rfl, rfl, rfl, rfl⟩
theorem feedM_I {m : Int} : ∀ (l : List UInt8) {s : Gs} {K : Int}, GsI s m K → K + l.length ≤ 4611686018427387904 → GsI (feedM m s l).s m (K + l.length) ∧ (feedM m s l).tl.length ≤ l.length * 4800
  | [], s, K, h, hK => ⟨by simpa [feedM] using h, by simp [feedM]⟩
  | c :: r, s, K, h, hK => by
    simp only [List.length_cons] at hK ⊢
    unfold feedM
    split
    · obtain ⟨h1, h2⟩ := hearM_I h (by omega)
      obtain ⟨h3, h4⟩ := feedM_I r (nxtM_I h1) (by omega)
      refine ⟨?_, ?_⟩
      · have e : K + ((r.length + 1 : Nat) : Int) = K + 1 + (r.length : Int) := by omega
        rw [e]; exact h3
      · simp only [List.length_append]; omega
    · obtain ⟨h3, h4⟩ := feedM_I r (addM_I h [c]) (by omega)
      exact ⟨h3.mono (by omega), Nat.le_trans h4 (Nat.mul_le_mul_right _ (Nat.le_succ _))⟩
theorem feedM_line {m : Int} {s : Gs} {l : List UInt8} {i : Nat} (h : cutN l = some i) (hs : s.ok) : feedM m s l = ⟨(feedM m (nxtM (hearM m (addM s (l.take i))).s) (l.drop (i + 1))).s, (hearM m (addM s (l.take i))).ms ++ (feedM m (nxtM (hearM m (addM s (l.take i))).s) (l.drop (i + 1))).ms, (hearM m (addM s (l.take i))).tl ++ (feedM m (nxtM (hearM m (addM s (l.take i))).s) (l.drop (i + 1))).tl⟩ := by
  obtain ⟨h1, h2, h3⟩ := cutN_some h
  have e : l = l.take i ++ 10 :: l.drop (i + 1) := by rw [← h3, List.take_append_drop]
  conv => lhs; rw [e]
  rw [feedM_piece h2 hs]
  simp only [feedM, if_true]
theorem feedM_open {m : Int} {s : Gs} {l : List UInt8} (h : cutN l = none) (hs : s.ok) : feedM m s l = ⟨addM s l, [], []⟩ := by
  have := feedM_piece (m := m) (p := l) (r := []) (cutN_none h) hs
  rw [List.append_nil] at this
  rw [this]
  rfl
end Go.Proofs.YtdhkdniddjnigaaGreatDoor
