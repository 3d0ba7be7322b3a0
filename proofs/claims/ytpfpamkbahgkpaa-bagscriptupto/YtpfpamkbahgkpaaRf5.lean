import Derived.Test.YtpfpamkbahgkpaaRf4
namespace Go.Proofs.Ytpfpamkbahgkpaa
open Go.RowKit
set_option linter.unusedVariables false

set_option maxHeartbeats 800000 in
set_option maxRecDepth 1000000 in
theorem rAt_yes {B : Bg} {i : Nat} {p : Pk} {cs : List Comp} {w : World} (h : All (B.M ++ cs) w) (hn : B.ps.length ≤ 1024) (hp : B.ps[i]? = some p) (hr : Reads w p.D p.bs) (hl : p.bs.length ≤ 140737488355328) : Calls Try.prog 42 #[B.V, .int .i64 (i : Int)] w fun e w' => ∃ a2 c2, e = .returned (.tuple #[(p.to a2 c2).V, .bool true]) ∧ All (byC (p.to a2 c2).D p.bs :: (B.M ++ cs)) w' := by
  have hi : i < B.ps.length := (List.getElem?_eq_some_iff.1 hp).1
  have A0 := h.addBlk Pk.zero.cells 49
  have hr := hr.below (ba w (.cells Pk.zero.cells.toArray 49))
  obtain ⟨g, c, hv, hg, hrg, _⟩ := row_at (All.docRow (cs := [blkC w.heap.size Pk.zero.cells 49]) A0) hp
  have hb := All.docBlk (cs := [blkC w.heap.size Pk.zero.cells 49]) A0
  rw [hv] at hb
  have F := hid (own_any (p := p) A0 hr hl)
  have t2 : (w.alloc (.cells Pk.zero.cells.toArray 49)).cell? ⟨B.b, 2, none⟩ = some (.slice (some ⟨g, 0, none⟩) B.ps.length c) := by rw [cell_at hb]; rfl
  obtain ⟨s1, s2, s3, s4, s5, s6⟩ := pkAt_of hrg
  have eW : w.alloc (.cells #[.int .i64 0, .int .i64 0, .int .i64 0, .int .i64 0, .int .i64 0, .slice none 0 0] 49) = w.alloc (.cells Pk.zero.cells.toArray 49) := rfl
  clear h hb hv hp hrg hr A0
  obtain ⟨n, hnn⟩ : ∃ n, Hid (n = B.ps.length) := ⟨_, hid rfl⟩
  rw [← hnn.out] at t2 hi hn
  have hii : (i : Int) < (n : Int) := by omega
  have h0' : ¬ (i : Int) < 0 := by omega
  have h1' : ¬ (n : Int) ≤ (i : Int) := by omega
  go_enter Try.func42, Try.ntmps42
  go_wp2_with fail
  refine F.out.mono ?_
  rintro e w2 ⟨a2, c2, rfl, A2⟩
  have A2 := hid A2
  clear F s1 s2 s3 s4 s5 s6 t2 eW hg
  obtain ⟨⟨s1, s2, s3, s4, s5, s6⟩, sf⟩ := pkAt_blk A2.out.tail
  simp only [Nat.zero_add] at s1 s2 s3 s4 s5 s6
  have A4 : Hid (All (blkC w.heap.size (p.to a2 c2).cells 49 :: byC (p.to a2 c2).D p.bs :: (B.M ++ cs)) (w2.setCells w.heap.size 0 (p.to a2 c2).cells)) := hid (All.setBlks (p.to a2 c2).cells Pk.zero.cells _ 0 A2.out.swap)
  rw [set6] at A4
  simp only [Nat.zero_add] at A4
  clear A2
  go_wp2
  refine ret_pkB (fn := Try.f42) (b := w.heap.size) (x := p.to a2 c2) rfl rfl rfl A4.out.1.2.1 rfl ?_
  exact ⟨a2, c2, rfl, A4.out.tail⟩
/-- At, by the document. -/
theorem rAt_any {B : Bg} {j : Int} {P : List (Value × List UInt8)} {cs : List Comp} {w : World} (h : All (poolC P :: (B.M ++ cs)) w) (hi : B.In P) (hn : B.ps.length ≤ 1024) :
    Calls Try.prog 42 #[B.V, .int .i64 j] w fun e w' => ∃ p : Pk, e = .returned (.tuple #[p.V, .bool (hasB j B.ps.length)]) ∧ p.ap = B.ab.at j ∧ All (byC p.D p.bs :: poolC P :: (B.M ++ cs)) w' := by
  by_cases hh : hasB j B.ps.length = false
  · refine (rAt_no (h.perm (perm12 _ _ _ _)) hn hh).mono ?_
    rintro e w' ⟨rfl, hb⟩
    exact ⟨Pk.zero, by rw [hh], (Bg.at_none hh).symm, (h.later hb).addNil⟩
  · have hh' : hasB j B.ps.length = true := by simpa using hh
    obtain ⟨p, hp, hm, hat, hlt, hj⟩ := Bg.at_ps hh'
    rw [hh']
    generalize hjj : j.toNat = i at *
    subst hj
    refine (rAt_yes (h.perm (perm12 _ _ _ _)) hn hp (h.inReads (by simp) hi hm) (hi p hm).2).mono ?_
    rintro e w' ⟨a2, c2, rfl, A⟩
    exact ⟨p.to a2 c2, rfl, hat.symm, A.perm (List.Perm.cons _ (perm12 _ _ _ _).symm)⟩

set_option maxHeartbeats 1600000 in
set_option maxRecDepth 1000000 in
theorem rOlder_ok {B : Bg} {cs : List Comp} {w : World} (h : All (B.M ++ cs) w) (hn : B.ps.length ≤ 1024) (ha : ∀ p ∈ B.ps, 0 ≤ p.a ∧ p.a < 4611686018427387904) :
    Calls Try.prog 39 #[B.V] w fun e w' => e = .returned (.tuple #[]) ∧ All ((Bg.mk B.b B.r B.l B.v (B.ps.map Pk.old)).M ++ cs) w' := by
  obtain ⟨ao, c, hv, hc⟩ := h.docForm
  obtain ⟨b, r, l, v, ps⟩ := B
  simp only at hv hc hn ha
  subst hv
  obtain ⟨n, hnn⟩ : ∃ n, Hid (n = ps.length) := ⟨_, hid rfl⟩
  have A0 : Hid (All (blkC b [.int .i64 r, .int .i64 l, .slice ao n c] 75 :: rowC 49 6 (.slice ao n c) n (flatP ((ps.take 0).map Pk.old ++ ps.drop 0)) :: cs) w) := hid (by rw [hnn.out]; simpa using h)
  have t2 : w.cell? ⟨b, 2, none⟩ = some (.slice ao n c) := by rw [cell_at A0.out.1.2.1]; rfl
  have hnl : n ≤ 1024 := by rw [hnn.out]; exact hn
  have HA := hid ha
  clear h hn ha hc
  show Calls Try.prog 39 #[.pointer (some ⟨b, 0, none⟩)] w _
  go_enter Try.func39, Try.ntmps39
  go_wp2
  go_loopw [2] (fun iv wr => ∃ (i : Nat), i ≤ n ∧ iv = .int .i64 (i : Int) ∧ Hid (All (blkC b [.int .i64 r, .int .i64 l, .slice ao n c] 75 :: rowC 49 6 (.slice ao n c) n (flatP ((ps.take i).map Pk.old ++ ps.drop i)) :: cs) wr)) (fun iv _ => n - (intOf iv).toNat)
  case atStart => exact ⟨0, by omega, rfl, A0⟩
  case round =>
    clear A0 t2
    obtain ⟨i, hi, rfl, A⟩ := hrel
    have t2 : wr.cell? ⟨b, 2, none⟩ = some (.slice ao n c) := by rw [cell_at A.out.1.2.1]; rfl
    by_cases hlt : i < n
    · have hlt' := hlt
      rw [hnn.out] at hlt'
      obtain ⟨p, hp⟩ : ∃ p, ps[i]? = some p := ⟨_, List.getElem?_eq_getElem hlt'⟩
      have hpa := HA.out p (List.mem_of_getElem? hp)
      have hq : ((ps.take i).map Pk.old ++ ps.drop i)[i]? = some p := by
        rw [List.getElem?_append_right (by simp; omega)]
        simp only [List.length_map, List.length_take, Nat.min_eq_left (Nat.le_of_lt hlt'), Nat.sub_self, List.getElem?_drop, Nat.add_zero]
        exact hp
      have hlen : ((ps.take i).map Pk.old ++ ps.drop i).length = n := by rw [hnn.out]; simp; omega
      obtain ⟨g, c2, hv2, hg, hrg, hfz⟩ := row_at (by rw [hlen]; exact A.out.tail.1.2.1) hq
      simp only [Value.slice.injEq] at hv2
      obtain ⟨rfl, -, -⟩ := hv2
      obtain ⟨s1, s2, s3, s4, s5, s6⟩ := pkAt_of hrg
      have A2 := (A.out.swap.rowSet (i * 6 + 3) (.int .i64 (p.a + 1))).swap
      rw [flatP_set1 (p' := p.old) hq (by omega) (by simp [Pk.cells, Pk.old]), take_map_set Pk.old ps i p hp] at A2
      have A2 := hid A2
      clear A hq hlen hrg hp hlt'
      have hii : (i : Int) < (n : Int) := by omega
      go_wp2
      go_roundw
      case rel => exact ⟨i + 1, by omega, by go_num, A2⟩
      case measure => simp [intOf]; omega
    · have hin : i = n := by omega
      have A3 := A.out
      rw [hin, hnn.out] at A3
      have A3 := hid A3
      clear A hin
      go_wp2
      go_end0
      refine ⟨rfl, ?_⟩
      have A4 := A3.out
      simp only [List.take_length, List.drop_length, List.append_nil] at A4
      simpa [Bg.M, pkC] using A4
/-- Older, by the document. -/
theorem rOlder_any {B : Bg} {P : List (Value × List UInt8)} {cs : List Comp} {w : World} (h : All (poolC P :: (B.M ++ cs)) w) (hi : B.In P) {k : Nat} (ho : B.ab.Ok k) (hk : k < 4611686018427387904) :
    Calls Try.prog 39 #[B.V] w fun e w' => e = .returned (.tuple #[]) ∧ B.Tm B.ab.older P cs w' := by
  have hn : B.ps.length ≤ 1024 := by rw [← B.ab_len]; exact ho.small
  refine (rOlder_ok (h.perm (perm12 _ _ _ _)) hn (fun p hp => ?_)).mono ?_
  · have h0 := ho.a0 p.ap (List.mem_map_of_mem hp)
    have h1 := ho.a1 p.ap (List.mem_map_of_mem hp)
    simp only [Pk.ap] at h0 h1
    omega
  · rintro e w' ⟨rfl, A⟩
    refine ⟨rfl, P, Bg.mk B.b B.r B.l B.v (B.ps.map Pk.old), rfl, ?_, ?_, fun e h => h, A.perm (perm12 _ _ _ _).symm⟩
    · simp [Bg.ab, AB.older, Pk.old, Pk.ap]
    · intro q hq
      obtain ⟨p, hp, rfl⟩ := List.mem_map.1 hq
      exact hi p hp

set_option maxHeartbeats 1600000 in
set_option maxRecDepth 1000000 in
/-- List, by the document. -/
theorem rList_any {B : Bg} {P : List (Value × List UInt8)} {cs : List Comp} {w : World} (h : All (poolC P :: (B.M ++ cs)) w) (hi : B.In P) (hn : B.ps.length ≤ 1024) :
    Calls Try.prog 18 #[B.V] w fun e w' => ∃ v qs, e = .returned v ∧ qs.map Pk.ap = B.ps.map Pk.ap ∧ All (pkC v qs :: (datL qs ++ (poolC P :: (B.M ++ cs)))) w' := by
  obtain ⟨ao, c, hv, hc⟩ := All.docForm h.tail
  obtain ⟨b, r, l, v, ps⟩ := B
  have HI := hid hi
  simp only at hv hc hn
  subst hv
  obtain ⟨n, hnn⟩ : ∃ n, Hid (n = ps.length) := ⟨_, hid rfl⟩
  obtain ⟨R, hR⟩ : ∃ R, Hid (R = poolC P :: ((Bg.mk b r l (.slice ao ps.length c) ps).M ++ cs)) := ⟨_, hid rfl⟩
  have hbW : Hid (∀ X W, All (X ++ R) W → W.cell? ⟨b, 2, none⟩ = some (.slice ao n c) ∧ W.ownsRow 0 49 6 (.slice ao n c) n (flatP ps) ∧ ∀ p ∈ ps, Reads W p.D p.bs) := hid (fun X W A => by
    rw [hR.out] at A
    have A' : All ((X ++ [poolC P]) ++ ((Bg.mk b r l (.slice ao ps.length c) ps).M ++ cs)) W := by simpa using A
    rw [hnn.out]
    exact ⟨by rw [cell_at A'.docBlk]; rfl, A'.docRow, fun p hp => A.inReads (B := Bg.mk b r l (.slice ao ps.length c) ps) (P := P) (by simp) HI.out hp⟩)
  have A0 : Hid (All (rowC 49 6 (.slice (some ⟨w.heap.size, 0, none⟩) 0 0) 0 [] :: (datL [] ++ R)) (w.alloc (.cells #[] 49))) := hid (by
    have := h.addMade
    rw [← hR.out] at this
    exact this)
  have hnl : n ≤ 1024 := by rw [hnn.out]; exact hn
  have hpl : Hid (∀ p ∈ ps, p.bs.length ≤ 140737488355328) := hid (fun p hp => (HI.out p hp).2)
  clear h hc hn hi
  show Calls Try.prog 18 #[.pointer (some ⟨b, 0, none⟩)] w (fun e w' => ∃ v qs, e = .returned v ∧ qs.map Pk.ap = ps.map Pk.ap ∧ All (pkC v qs :: (datL qs ++ (poolC P :: ((Bg.mk b r l (.slice ao ps.length c) ps).M ++ cs)))) w')
  rw [← hR.out]
  go_enter Try.func18, Try.ntmps18
  go_wp2
  go_loopw [3, 4] (fun ov iv wr => ∃ (i : Nat) (qs : List Pk) (oa : Option Addr) (oc : Nat), i ≤ n ∧ iv = .int .i64 (i : Int) ∧ ov = .slice oa i oc ∧ Hid (qs.length = i ∧ qs.map Pk.ap = (ps.take i).map Pk.ap ∧ All (pkC (.slice oa i oc) qs :: (datL qs ++ R)) wr)) (fun _ iv _ => n - (intOf iv).toNat)
  case atStart => exact ⟨0, [], _, _, by omega, rfl, rfl, hid ⟨rfl, rfl, A0.out⟩⟩
  case round =>
    clear A0
    obtain ⟨i, qs, oa, oc, hin, rfl, rfl, A⟩ := hrel
    obtain ⟨ql, qa, A1⟩ := A.out
    obtain ⟨t2, tr, trd⟩ := hbW.out (pkC (.slice oa i oc) qs :: datL qs) wr A1
    by_cases hlt : i < n
    · have hlt' := hlt
      rw [hnn.out] at hlt'
      obtain ⟨p, hp⟩ : ∃ p, ps[i]? = some p := ⟨_, List.getElem?_eq_getElem hlt'⟩
      obtain ⟨g, c2, hv2, hg, hrg, hfz⟩ := row_at (by rw [hnn.out] at tr; exact tr) hp
      simp only [Value.slice.injEq] at hv2
      obtain ⟨rfl, -, -⟩ := hv2
      obtain ⟨s1, s2, s3, s4, s5, s6⟩ := pkAt_of hrg
      have hii : (i : Int) < (n : Int) := by omega
      have T := hid (own_any (p := p) A1 (trd p (List.mem_of_getElem? hp)) (hpl.out p (List.mem_of_getElem? hp)))
      have Q := hid (And.intro ql qa)
      have HP := hid hp
      clear A A1 tr trd hrg hfz ql qa hp hlt'
      go_wp2_with fail
      refine T.out.mono ?_
      rintro e w2 ⟨a2, k2, rfl, A2⟩
      obtain ⟨a3, k3, w3, hrun, A3⟩ := app_one (W := w2.alloc (.cells (p.to a2 k2).cells.toArray 49)) (K := w2.heap.size) (x := p.to a2 k2) (l := qs) (v := .slice oa i oc) (A2.swap.alloc _) (heap_alloc_new w2 _) (by rw [Q.out.1]; omega)
      rw [Q.out.1] at hrun A3
      have A4 : Hid ((qs ++ [p.to a2 k2]).length = i + 1 ∧ (qs ++ [p.to a2 k2]).map Pk.ap = (ps.take (i + 1)).map Pk.ap ∧ All (pkC (.slice a3 (i + 1) k3) (qs ++ [p.to a2 k2]) :: (datL (qs ++ [p.to a2 k2]) ++ R)) w3) := hid ⟨by simp [Q.out.1], by
          have hl := (List.getElem?_eq_some_iff.1 HP.out).1
          have e : ps[i] = p := by have := HP.out; rw [List.getElem?_eq_getElem hl] at this; simpa using this
          rw [List.map_append, Q.out.2, List.take_succ_eq_append_getElem hl, List.map_append, e]
          rfl, A3.perm (by
          refine List.Perm.cons _ ?_
          simp only [datL, List.map_append, List.map_cons, List.map_nil, List.append_assoc, List.cons_append, List.nil_append]
          exact List.perm_middle.symm)⟩
      have RR := hid hrun
      clear A2 A3 Q HP T s1 s2 s3 s4 s5 s6 hg t2 hrun
      go_wp2_with (at_builtin; refine wpList_append_run rfl _ _ 39 rfl _ _ _ _ rfl rfl RR.out ?_)
      go_roundw
      case rel => exact ⟨i + 1, qs ++ [p.to a2 k2], a3, k3, by omega, by go_num, rfl, A4⟩
      case measure => simp [intOf]; omega
    · have hin' : Hid (i = n) := hid (by omega)
      go_wp2
      go_ret
      refine ⟨_, qs, rfl, ?_, A1⟩
      rw [qa, hin'.out, hnn.out, List.take_length]
end Go.Proofs.Ytpfpamkbahgkpaa
