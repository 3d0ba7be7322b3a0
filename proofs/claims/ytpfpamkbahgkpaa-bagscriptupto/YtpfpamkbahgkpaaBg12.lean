import Derived.Test.YtpfpamkbahgkpaaBg11
namespace Go.Proofs.Ytpfpamkbahgkpaa
open Go.RowKit
set_option linter.unusedVariables false

/-- The bytes of packets that were told. -/
abbrev datL (qs : List Pk) : List Comp := qs.map fun q => byC q.D q.bs
/-- Told packets: their bytes lie in blocks of their own, with no room behind them. -/
def Tight (qs : List Pk) : Prop := ∀ q ∈ qs, q.c = q.bs.length ∧ ∃ H, q.ao = some ⟨H, 0, none⟩

theorem set_pad (qs : List Pk) (n i : Nat) (p : Pk) (hq : qs.length = i) (hi : i < n) : (qs ++ List.replicate (n - i) Pk.zero).set i p = (qs ++ [p]) ++ List.replicate (n - (i + 1)) Pk.zero := by
  rw [List.set_append_right _ _ (by omega), hq, Nat.sub_self, show n - i = (n - (i + 1)) + 1 by omega, List.replicate_succ, List.set_cons_zero]
  simp

set_option maxHeartbeats 1600000 in
set_option maxRecDepth 1000000 in
/-- List. -/
theorem List_any {B : Bg} {P : List (Value × List UInt8)} {cs : List Comp} {w : World} (h : All (poolC P :: (B.L ++ cs)) w) (hi : B.In P) (hn : B.ps.length ≤ 1024) :
    Calls Try.prog 17 #[B.V] w fun e w' => ∃ H qs, e = .returned (.slice (some ⟨H, 0, none⟩) B.ps.length B.ps.length) ∧ qs.map Pk.ap = B.ps.map Pk.ap ∧ Tight qs ∧ All (pkC (.slice (some ⟨H, 0, none⟩) B.ps.length B.ps.length) qs :: (datL qs ++ (poolC P :: (B.L ++ cs)))) w' := by
  obtain ⟨ao, c, hv, hc⟩ := All.bagForm h.tail
  obtain ⟨b, r, l, v, ps⟩ := B
  have HI := hid hi
  simp only at hv hc hn
  subst hv
  obtain ⟨n, hnn⟩ : ∃ n, Hid (n = ps.length) := ⟨_, hid rfl⟩
  obtain ⟨R, hR⟩ : ∃ R, Hid (R = poolC P :: ((Bg.mk b r l (.slice ao ps.length c) ps).L ++ cs)) := ⟨_, hid rfl⟩
  have M := make_pks (w := w) n (by rw [hnn.out]; omega)
  have hbW : Hid (∀ X W, All (X ++ R) W → W.cell? ⟨b, 2, none⟩ = some (.slice ao n c) ∧ W.ownsRow 0 49 6 (.slice ao n c) n (flatP ps) ∧ ∀ p ∈ ps, Reads W p.D p.bs) := hid (fun X W A => by
    rw [hR.out] at A
    have A' : All ((X ++ [poolC P]) ++ ((Bg.mk b r l (.slice ao ps.length c) ps).L ++ cs)) W := by simpa using A
    rw [hnn.out]
    exact ⟨by rw [cell_at A'.bagBlk]; rfl, A'.bagRow, fun p hp => A.inReads (B := Bg.mk b r l (.slice ao ps.length c) ps) (P := P) (by simp) HI.out hp⟩)
  have A0 : Hid (All (rowC 49 6 (.slice (some ⟨w.heap.size, 0, none⟩) n n) n (flatP ([] ++ List.replicate (n - 0) Pk.zero)) :: (datL [] ++ R)) (w.alloc (.cells (flatP (List.replicate n Pk.zero)).toArray 49))) := hid (by
    have := All.addPks h (List.replicate n Pk.zero) (by simp; unfold maxLen; rw [hnn.out]; omega)
    rw [← hR.out] at this
    simpa [pkC] using this)
  rw [← hR.out] at h
  have t2 := (hbW.out [] w h).1
  have hnl : n ≤ 1024 := by rw [hnn.out]; exact hn
  have t2' := (hbW.out _ _ (show All ((rowC 49 6 (.slice (some ⟨w.heap.size, 0, none⟩) n n) n (flatP ([] ++ List.replicate (n - 0) Pk.zero)) :: datL []) ++ R) _ from A0.out)).1
  have hbl : b < w.heap.size := by
    have hx := h
    rw [hR.out] at hx
    exact hx.2.2.1.2.2 b (by simp [blkC])
  have hpl : Hid (∀ p ∈ ps, p.bs.length ≤ 140737488355328) := hid (fun p hp => (HI.out p hp).2)
  clear h hc hn hi
  show Calls Try.prog 17 #[.pointer (some ⟨b, 0, none⟩)] w (fun e w' => ∃ H qs, e = .returned (.slice (some ⟨H, 0, none⟩) ps.length ps.length) ∧ qs.map Pk.ap = ps.map Pk.ap ∧ Tight qs ∧ All (pkC (.slice (some ⟨H, 0, none⟩) ps.length ps.length) qs :: (datL qs ++ (poolC P :: ((Bg.mk b r l (.slice ao ps.length c) ps).L ++ cs)))) w')
  rw [← hR.out, ← hnn.out]
  generalize w.alloc (.cells (flatP (List.replicate n Pk.zero)).toArray 49) = w0 at *
  generalize w.heap.size = H at *
  go_enter Try.func17, Try.ntmps17
  go_wp2
  go_loopw [17] (fun iv wr => ∃ (i : Nat) (qs : List Pk), i ≤ n ∧ iv = .int .i64 (i : Int) ∧ Hid (qs.length = i ∧ qs.map Pk.ap = (ps.take i).map Pk.ap ∧ Tight qs ∧ All (rowC 49 6 (.slice (some ⟨H, 0, none⟩) n n) n (flatP (qs ++ List.replicate (n - i) Pk.zero)) :: (datL qs ++ R)) wr)) (fun iv _ => n - (intOf iv).toNat)
  case atStart => exact ⟨0, [], by omega, rfl, hid ⟨rfl, rfl, fun q hq => (by cases hq), A0.out⟩⟩
  case round =>
    clear A0 t2 t2' M
    obtain ⟨i, qs, hin, rfl, A⟩ := hrel
    by_cases hlt : i < n
    · have hlt' := hlt
      rw [hnn.out] at hlt'
      obtain ⟨p, hp⟩ : ∃ p, ps[i]? = some p := ⟨_, List.getElem?_eq_getElem hlt'⟩
      obtain ⟨ql, qa, qt, A1⟩ := A.out
      obtain ⟨t2, tr, trd⟩ := hbW.out (rowC 49 6 (.slice (some ⟨H, 0, none⟩) n n) n (flatP (qs ++ List.replicate (n - i) Pk.zero)) :: datL qs) wr A1
      obtain ⟨g, c2, hv2, hg, hrg, hfz⟩ := row_at (by rw [hnn.out] at tr; exact tr) hp
      simp only [Value.slice.injEq] at hv2
      obtain ⟨rfl, -, -⟩ := hv2
      obtain ⟨s1, s2, s3, s4, s5, s6⟩ := pkAt_of hrg
      have hii : (i : Int) < (n : Int) := by omega
      have T := hid (fun o => told_any (p := p) (A1.alloc o) ((trd p (List.mem_of_getElem? hp)).below (ba wr o)) (hpl.out p (List.mem_of_getElem? hp)))
      have Q := hid (And.intro ql (And.intro qa qt))
      have HP := hid hp
      clear A A1 t2 tr trd hrg hfz ql qa qt hp hlt'
      go_wp2_with fail
      refine (T.out _).mono ?_
      rintro e w2 ⟨K, rfl, A2⟩
      clear T s1 s2 s3 s4 s5 s6 hg
      have hz : (qs ++ List.replicate (n - i) Pk.zero)[i]? = some Pk.zero := by
        rw [List.getElem?_append_right (by rw [Q.out.1]; exact Nat.le_refl _), Q.out.1, Nat.sub_self, List.getElem?_replicate, if_pos (by omega)]
      have hzl : (qs ++ List.replicate (n - i) Pk.zero).length = n := by simp [Q.out.1]; omega
      obtain ⟨g3, c3, hv3, hg3, hrg3, hfz3⟩ := row_at (ps := qs ++ List.replicate (n - i) Pk.zero) (by rw [hzl]; exact A2.tail.1.2.1) hz
      simp only [Value.slice.injEq, Option.some.injEq, Addr.mk.injEq, and_true] at hv3
      obtain ⟨rfl, -, -⟩ := hv3
      obtain ⟨s1, s2, s3, s4, s5, s6⟩ := pkAt_of hrg3
      have A3 := All.rowSets (p.at K).cells _ _ (i * 6) A2.swap
      rw [flatP_set _ _ _ (by rw [hzl]; exact hlt), set_pad qs n i _ Q.out.1 hlt, set6] at A3
      have A4 : Hid ((qs ++ [p.at K]).length = i + 1 ∧ (qs ++ [p.at K]).map Pk.ap = (ps.take (i + 1)).map Pk.ap ∧ Tight (qs ++ [p.at K]) ∧ All (rowC 49 6 (.slice (some ⟨H, 0, none⟩) n n) n (flatP ((qs ++ [p.at K]) ++ List.replicate (n - (i + 1)) Pk.zero)) :: (datL (qs ++ [p.at K]) ++ R)) _) := hid ⟨by simp [Q.out.1], by
          have hl := (List.getElem?_eq_some_iff.1 HP.out).1
          have e : ps[i] = p := by have := HP.out; rw [List.getElem?_eq_getElem hl] at this; simpa using this
          rw [List.map_append, Q.out.2.1, List.take_succ_eq_append_getElem hl, List.map_append, e]
          rfl, fun q hq => by
          rcases List.mem_append.1 hq with hq | hq
          · exact Q.out.2.2 q hq
          · obtain rfl : q = p.at K := by simpa using hq
            exact ⟨rfl, K, rfl⟩, A3.perm (by
          refine List.Perm.cons _ ?_
          simp only [datL, List.map_append, List.map_cons, List.map_nil, List.append_assoc, List.cons_append, List.nil_append]
          exact List.perm_middle.symm)⟩
      clear A2 A3 hz hzl hrg3 Q HP
      go_wp2
      go_roundw
      case rel => exact ⟨i + 1, qs ++ [p.at K], by omega, by go_num, A4⟩
      case measure => simp [intOf]; omega
    · have hin' : Hid (i = n) := hid (by omega)
      go_wp2
      go_ret
      obtain ⟨ql, qa, qt, A1⟩ := A.out
      refine ⟨H, qs, rfl, ?_, qt, ?_⟩
      · rw [qa, hin'.out, hnn.out, List.take_length]
      · rw [hin'.out, Nat.sub_self, List.replicate_zero, List.append_nil] at A1
        simpa [pkC, ql, hin'.out] using A1
end Go.Proofs.Ytpfpamkbahgkpaa
