import Derived.Test.YtdhkdniddjnigaaGreatDoorHi
namespace Go.Proofs.YtdhkdniddjnigaaGreatDoor
open Go.RowKit
set_option linter.unusedVariables false

/-- Between two lines: nothing is fed, nothing waits, nothing is under way. -/
structure Idle (s : Gs) (u : Int) : Prop where
  no : s.no = u
  tx : s.tx = []
  lg : s.long = false
  uw : s.uw = 0
  ws : s.ws = []
  n : s.x.n = 3
  id : s.x.id = 0
  r : s.x.rq.wts = false
  q : s.x.qu.wts = false
  I : PxI s.x 64 s.n1 s.n2
  sn : 0 ≤ s.x.seen ∧ s.x.seen < 1099511627776
/-- A request or a question of line 'no' is under way. -/
structure Busy (s : Gs) (u : Int) (mm : Ms) : Prop where
  no : s.no = u + 1
  tx : s.tx = []
  lg : s.long = false
  uw : s.uw = u
  ws : s.ws = []
  n : s.x.n = 3
  id : s.x.id = 0
  I : PxI s.x 64 s.n1 s.n2
  sn : 0 ≤ s.x.seen ∧ s.x.seen < 1099511627776
  what : (mm.k = 1 ∧ mm.q = s.x.rq.num ∧ 1 ≤ s.x.rq.num ∧ s.x.rq.wts = true ∧ s.x.qu.wts = false) ∨ (mm.k = 14 ∧ mm.q = s.x.qu.num ∧ 1 ≤ s.x.qu.num ∧ s.x.qu.wts = true ∧ s.x.rq.wts = false ∧ mm.n = s.x.least ∧ 0 ≤ mm.n ∧ mm.n < 1099511627776 ∧ 0 ≤ mm.t ∧ mm.t < 3)
theorem bg_busy {s : Gs} {no : Int} (h : Idle s no) (q : Wi) (hq : q.no = no) (he : bgE s.x q = 0) : Busy (nxtM (bgS 64 s q [])) no (bgM s.x q s.n1 s.n2) := by
  have I2 := h.I.bg q he
  have i3 := h.I.rq
  have i4 := h.I.qu
  have hsn := h.sn
  unfold bgE at he
  by_cases hc : q.chk = 0
  · rw [if_neg (by simp [hc])] at he
    cases ha : q.ask with
    | true =>
      rw [ha] at he
      simp only [if_true] at he
      by_cases h6 : 6 ≤ q.o.k ∧ q.o.k ≤ 8
      · rw [if_neg (by simpa using h6)] at he
        by_cases hw : q.who < 0 ∨ s.x.n ≤ q.who
        · rw [if_pos hw] at he; simp at he
        · rw [if_neg hw] at he
          have hx : bgX s.x q s.n1 s.n2 = s.x.asked q.o.k ⟨q.o.nm.toArray⟩ ⟨q.o.tx.toArray⟩ (q.o.n : Int) (q.o.m : Int) s.n2 q.who := by unfold bgX; rw [ha]; rfl
          have hM : bgM s.x q s.n1 s.n2 = asM s.x.id q.who s.x.seen (bgX s.x q s.n1 s.n2).qu := by unfold bgM; rw [ha]; rfl
          have e1 : bg1 64 s.n1 q = s.n1 := by unfold bg1; rw [ha]; rfl
          have h3 := h.n
          rw [hM]
          refine ⟨by show s.no + 1 = no + 1; rw [h.no], rfl, rfl, hq, rfl, ?_, ?_, I2, ?_, Or.inr ⟨rfl, rfl, ?_, ?_, ?_, ?_, hsn.1, hsn.2, by show 0 ≤ q.who; omega, by show q.who < 3; omega⟩⟩
          · show (bgX s.x q s.n1 s.n2).n = 3; rw [hx]; exact h.n
          · show (bgX s.x q s.n1 s.n2).id = 0; rw [hx]; exact h.id
          · show 0 ≤ (bgX s.x q s.n1 s.n2).seen ∧ (bgX s.x q s.n1 s.n2).seen < 1099511627776; rw [hx]; exact hsn
          · show 1 ≤ (bgX s.x q s.n1 s.n2).qu.num; rw [hx]; show 1 ≤ s.x.qu.num + 1; omega
          · show (bgX s.x q s.n1 s.n2).qu.wts = true; rw [hx]; rfl
          · show (bgX s.x q s.n1 s.n2).rq.wts = false; rw [hx]; exact h.r
          · show s.x.seen = (bgX s.x q s.n1 s.n2).least; rw [hx]; rfl
      · rw [if_pos (by simpa using h6)] at he; simp at he
    | false =>
      have hx : bgX s.x q s.n1 s.n2 = s.x.sub q.o.k ⟨q.o.nm.toArray⟩ ⟨q.o.tx.toArray⟩ (q.o.n : Int) (q.o.m : Int) s.n1 := by unfold bgX; rw [ha]; rfl
      have hM : bgM s.x q s.n1 s.n2 = rqM s.x.id (s.x.view.tmod s.x.n) (bgX s.x q s.n1 s.n2).rq := by unfold bgM; rw [ha]; rfl
      rw [hM]
      refine ⟨by show s.no + 1 = no + 1; rw [h.no], rfl, rfl, hq, rfl, ?_, ?_, I2, ?_, Or.inl ⟨rfl, rfl, ?_, ?_, ?_⟩⟩
      · show (bgX s.x q s.n1 s.n2).n = 3; rw [hx]; exact h.n
      · show (bgX s.x q s.n1 s.n2).id = 0; rw [hx]; exact h.id
      · show 0 ≤ (bgX s.x q s.n1 s.n2).seen ∧ (bgX s.x q s.n1 s.n2).seen < 1099511627776; rw [hx]; exact hsn
      · show 1 ≤ (bgX s.x q s.n1 s.n2).rq.num; rw [hx]; show 1 ≤ s.x.rq.num + 1; omega
      · show (bgX s.x q s.n1 s.n2).rq.wts = true; rw [hx]; rfl
      · show (bgX s.x q s.n1 s.n2).qu.wts = false; rw [hx]; exact h.q
  · rw [if_pos hc] at he; exact absurd he hc
/-- What a line does at a gate where nothing waits. -/
def LineR (s : Gs) (u : Int) (F : Go) : Prop := (F.ms = [] ∧ Idle F.s (u + 1) ∧ (F.tl = [] ∨ ∃ e, 0 ≤ e ∧ e ≤ 4611686018427387904 ∧ F.tl = refL u e)) ∨ (∃ mm, F.ms = [mm] ∧ F.tl = [] ∧ Busy F.s u mm)
theorem addM_same (s : Gs) (p : List UInt8) : (addM s p).no = s.no ∧ (addM s p).uw = s.uw ∧ (addM s p).ws = s.ws ∧ (addM s p).x = s.x ∧ (addM s p).n1 = s.n1 ∧ (addM s p).n2 = s.n2 := by
  unfold addM; split <;> exact ⟨rfl, rfl, rfl, rfl, rfl, rfl⟩
theorem idle_next {s : Gs} {u : Int} {p : List UInt8} (h : Idle s u) (ws : List Wi) (hws : ws = []) : Idle (nxtM { addM s p with ws := ws }) (u + 1) := by
  obtain ⟨a1, a2, a3, a4, a5, a6⟩ := addM_same s p
  subst hws
  exact ⟨by show (addM s p).no + 1 = u + 1; rw [a1, h.no], rfl, rfl, by show (addM s p).uw = 0; rw [a2]; exact h.uw, rfl, by show (addM s p).x.n = 3; rw [a4]; exact h.n, by show (addM s p).x.id = 0; rw [a4]; exact h.id, by show (addM s p).x.rq.wts = false; rw [a4]; exact h.r, by show (addM s p).x.qu.wts = false; rw [a4]; exact h.q, by show PxI (addM s p).x 64 (addM s p).n1 (addM s p).n2; rw [a4, a5, a6]; exact h.I, by show 0 ≤ (addM s p).x.seen ∧ (addM s p).x.seen < 1099511627776; rw [a4]; exact h.sn⟩
theorem idle_add {s : Gs} {u : Int} {p : List UInt8} (h : Idle s u) : (addM s p).ws = [] ∧ (addM s p).uw = 0 ∧ (addM s p).no = u := by
  obtain ⟨a1, a2, a3, _⟩ := addM_same s p
  exact ⟨by rw [a3]; exact h.ws, by rw [a2]; exact h.uw, by rw [a1]; exact h.no⟩
theorem eta_ws (s : Gs) (h : s.ws = []) : s = { s with ws := [] } := by cases s; simp only at h; subst h; rfl
theorem line_idle {s : Gs} {u : Int} {l : List UInt8} (h : Idle s u) (hl : (10 : UInt8) ∉ l) : LineR s u (feedM 64 s (l ++ [10])) := by
  have hE : ∀ e, readM (addM s l).tx (addM s l).long = .err e → 0 ≤ e ∧ e ≤ 4611686018427387904 := fun e he => by have := readM_err he; omega
  have hB : ∀ q : Wi, 0 ≤ bgE s.x q ∧ bgE s.x q ≤ 4611686018427387904 := fun q => by have := bgE_rng s.x q; omega
  have hok : s.ok := ⟨fun _ => h.tx, by rw [h.tx]; exact Nat.zero_le _⟩
  rw [feedM_piece hl hok]
  obtain ⟨b1, b2, b3⟩ := idle_add (p := l) h
  have e0 : feedM 64 (addM s l) [10] = ⟨nxtM (hearM 64 (addM s l)).s, (hearM 64 (addM s l)).ms, (hearM 64 (addM s l)).tl⟩ := by
    unfold feedM
    rw [if_pos rfl]
    simp [feedM]
  rw [e0]
  unfold hearM
  cases hr : readM (addM s l).tx (addM s l).long with
  | err e =>
    refine Or.inl ⟨rfl, ?_, Or.inr ⟨e, (hE e hr).1, (hE e hr).2, by show refL (addM s l).no e = _; rw [b3]⟩⟩
    show Idle (nxtM (addM s l)) (u + 1)
    rw [eta_ws _ b1]
    exact idle_next h _ rfl
  | none =>
    refine Or.inl ⟨rfl, ?_, Or.inl rfl⟩
    show Idle (nxtM (addM s l)) (u + 1)
    rw [eta_ws _ b1]
    exact idle_next h _ rfl
  | wish a w o =>
    obtain ⟨a1, a2, a3, a4, a5, a6⟩ := addM_same s l
    simp only
    rw [b1, if_neg (by simp)]
    have hg : goM 64 { addM s l with ws := [] ++ [⟨(addM s l).no, a, w, o⟩] } = goL 64 { addM s l with ws := [] ++ [⟨(addM s l).no, a, w, o⟩] } [⟨(addM s l).no, a, w, o⟩] := by
      unfold goM
      show (if (addM s l).uw = 0 then _ else _) = _
      rw [if_pos b2]
      rfl
    rw [hg]
    obtain ⟨q, hq⟩ : ∃ q : Wi, q = ⟨(addM s l).no, a, w, o⟩ := ⟨_, rfl⟩
    have hqn : q.no = u := by rw [hq]; exact b3
    rw [← hq]
    obtain ⟨s3, hs3⟩ : ∃ s3 : Gs, s3 = { addM s l with ws := [] ++ [q] } := ⟨_, rfl⟩
    rw [← hs3]
    have x3 : s3.x = s.x := by rw [hs3]; exact a4
    have y3 : s3.n1 = s.n1 := by rw [hs3]; exact a5
    have z3 : s3.n2 = s.n2 := by rw [hs3]; exact a6
    have n3 : s3.no = s.no := by rw [hs3]; exact a1
    by_cases he : bgE s3.x q = 0
    · rw [goL_yes he]
      refine Or.inr ⟨_, rfl, rfl, ?_⟩
      have e2 : nxtM (bgS 64 s3 q []) = nxtM (bgS 64 s q []) := by
        unfold nxtM bgS
        simp only [x3, y3, z3, n3]
      show Busy (nxtM (bgS 64 s3 q [])) u (bgM s3.x q s3.n1 s3.n2)
      rw [e2, x3, y3, z3]
      exact bg_busy h q hqn (by rw [← x3]; exact he)
    · rw [goL_no he]
      refine Or.inl ⟨rfl, ?_, Or.inr ⟨bgE s3.x q, ?_, ?_, ?_⟩⟩
      · show Idle (nxtM { s3 with ws := [] }) (u + 1)
        have e3 : ({ s3 with ws := [] } : Gs) = { addM s l with ws := [] } := by rw [hs3]
        rw [e3]
        exact idle_next h _ rfl
      · rw [x3]; exact (hB q).1
      · rw [x3]; exact (hB q).2
      · show refL q.no (bgE s3.x q) ++ [] = _
        rw [List.append_nil, hqn]
theorem ansM_none {s : Gs} {rd : Bool} {nd n : Int} (h : s.ws = []) : ansM 64 s rd nd n = ⟨{ s with uw := 0, ws := [] }, [], lnB s.uw (ansW rd nd n)⟩ := by
  have e : goM 64 { s with uw := 0 } = ⟨{ s with uw := 0, ws := [] }, [], []⟩ := by
    unfold goM
    show (if (0 : Int) = 0 then goL 64 { s with uw := 0 } s.ws else _) = _
    rw [if_pos rfl, h]
    rfl
  unfold ansM
  rw [e]
  simp
/-- Behind the answer to a request nothing is under way. -/
theorem busy_reply {s : Gs} {u : Int} {mm : Ms} {f v n q : Int} (h : Busy s u mm) (hk : mm.k = 1) (hn : 0 ≤ n ∧ n < 1099511627776) : (ansM 64 (s.reply (rpR f v n q) 4) false 0 n).ms = [] ∧ (ansM 64 (s.reply (rpR f v n q) 4) false 0 n).tl = lnB u (ansW false 0 n) ∧ Idle (ansM 64 (s.reply (rpR f v n q) 4) false 0 n).s (u + 1) := by
  rw [ansM_none (s := s.reply (rpR f v n q) 4) h.ws]
  obtain ⟨i1, i2, i3, i4, i5, i6, i7⟩ := h.I
  refine ⟨rfl, by show lnB s.uw _ = _; rw [h.uw], ⟨h.no, h.tx, h.lg, rfl, rfl, h.n, h.id, rfl, ?_, ⟨i1, Int.le_trans i2 (Int.le_max_left _ _), i3, i4, (show (1 : Int) ≤ 4 ∧ (4 : Int) ≤ 64 by decide), i6, i7⟩, ?_⟩⟩
  · show s.x.qu.wts = false
    rcases h.what with w | w
    · exact w.2.2.2.2
    · rw [hk] at w; exact absurd w.1 (by decide)
  · show 0 ≤ max s.x.seen n ∧ max s.x.seen n < 1099511627776
    have := h.sn
    omega
theorem busy_told {s : Gs} {u : Int} {mm : Ms} {f n q : Int} (h : Busy s u mm) (hk : mm.k = 14) (hn : 0 ≤ n ∧ n < 1099511627776) : (ansM 64 (s.told (tpR f n q) 4) true f n).ms = [] ∧ (ansM 64 (s.told (tpR f n q) 4) true f n).tl = lnB u (ansW true f n) ∧ Idle (ansM 64 (s.told (tpR f n q) 4) true f n).s (u + 1) := by
  rw [ansM_none (s := s.told (tpR f n q) 4) h.ws]
  obtain ⟨i1, i2, i3, i4, i5, i6, i7⟩ := h.I
  refine ⟨rfl, by show lnB s.uw _ = _; rw [h.uw], ⟨h.no, h.tx, h.lg, rfl, rfl, h.n, h.id, ?_, rfl, ⟨i1, i2, i3, i4, i5, (show (1 : Int) ≤ 4 ∧ (4 : Int) ≤ 64 by decide), i7⟩, ?_⟩⟩
  · show s.x.rq.wts = false
    rcases h.what with w | w
    · rw [hk] at w; exact absurd w.1 (by decide)
    · exact w.2.2.2.2.1
  · show 0 ≤ max s.x.seen n ∧ max s.x.seen n < 1099511627776
    have := h.sn
    omega
end Go.Proofs.YtdhkdniddjnigaaGreatDoor
