import Derived.Test.YtagdpfghooogfaaJ6
import Derived.Test.YtagdpfghooogfaaJ7
import Derived.Test.YtagdpfghooogfaaJ2
import Derived.Laws.CopyOwn
import Derived.Test.YtagdpfghooogfaaKLast
import Derived.Deep.DeepCutAuto
import Derived.Deep.QuietTactic
import Derived.BigQuiet
namespace Go.Proofs.Ytagdpfghooogfaa
open Go.RowKit
set_option linter.unusedVariables false

def withS (p : Pl) (s : Value) : Pl := { p with s := s }
/-- The places so far. -/
def cpy (ps : List Pl) (ss : List Value) : List Pl := List.zipWith withS ps ss ++ List.replicate (8 - ss.length) .zero
theorem zipS_snoc (ps : List Pl) (ss : List Value) (p : Pl) (s : Value) (h : ps[ss.length]? = some p) : List.zipWith withS ps (ss ++ [s]) = List.zipWith withS ps ss ++ [withS p s] := by
  induction ss generalizing ps with
  | nil =>
    cases ps with
    | nil => simp at h
    | cons q ps => simp at h; subst h; simp
  | cons t ss ih =>
    cases ps with
    | nil => simp at h
    | cons q ps =>
      have := ih ps (by simpa using h)
      simp [this]
theorem cpy_at {ps : List Pl} {ss : List Value} (h8 : ps.length = 8) (hs : ss.length < 8) : (cpy ps ss)[ss.length]? = some .zero := by
  unfold cpy
  rw [List.getElem?_append_right (by simp; omega)]
  have e : ss.length - (List.zipWith withS ps ss).length = 0 := by simp; omega
  rw [e, List.getElem?_replicate, if_pos (by omega)]
theorem cpy_len {ps : List Pl} {ss : List Value} (h8 : ps.length = 8) (hs : ss.length ≤ 8) : (cpy ps ss).length = 8 := by
  unfold cpy; simp; omega
theorem cpy_set {ps : List Pl} {ss : List Value} {p : Pl} (h8 : ps.length = 8) (hs : ss.length < 8) (hp : ps[ss.length]? = some p) (s : Value) : (cpy ps ss).set ss.length (withS p s) = cpy ps (ss ++ [s]) := by
  unfold cpy
  have e : 8 - ss.length = (8 - (ss ++ [s]).length) + 1 := by simp; omega
  have e2 : (List.zipWith withS ps ss).length = ss.length := by simp; omega
  rw [zipS_snoc ps ss p s hp, e, List.replicate_succ, List.set_append_right _ _ (by omega), e2, Nat.sub_self, List.set_cons_zero]
  simp
theorem cpy_end {ps : List Pl} {ss : List Value} (hs : ss.length = 8) : cpy ps ss = List.zipWith withS ps ss := by
  unfold cpy; rw [hs]; simp

theorem flatXP_hasB {ps : List Pl} (h8 : ps.length = 8) {i : Nat} {p : Pl} (h : ps[i]? = some p) (b : Bool) : (flatXP ps).set (40 + i) (.bool b) = flatXP (ps.set i { p with on := b }) := by
  have hl := rowsX_len ps
  unfold flatXP
  rw [rowsX_keep (q := { p with on := b }) h rfl, List.set_append_right _ _ (by omega), hl, h8, show 40 + i - 5 * 8 = i by omega]
  unfold hasX
  rw [List.map_set]
theorem All.xhas {g i : Nat} {ps : List Pl} {p : Pl} {cs : List Comp} {w : World} (h8 : ps.length = 8) (h : All (xrollL g ps ++ cs) w) (hp : ps[i]? = some p) (b : Bool) : All (xrollL g (ps.set i { p with on := b }) ++ cs) (w.setCell ⟨g, 40 + i, none⟩ (.bool b)) := by
  have A := All.setBlk (g := g) (vs := flatXP ps) (t := 73) (cs := ps.map Pl.part ++ cs) h (40 + i) (.bool b)
  rw [flatXP_hasB h8 hp] at A
  have e : (ps.set i { p with on := b }).map Pl.part = ps.map Pl.part := by
    rw [List.map_set]
    exact set_same (by rw [List.getElem?_map, hp]; rfl)
  unfold xrollL
  rw [e]
  exact A

set_option maxHeartbeats 3200000 in
set_option maxRecDepth 1000000 in
theorem xclone_any {g : Nat} {ps : List Pl} {cs : List Comp} {w : World} (hA : All (xrollL g ps ++ cs) w) (h8 : ps.length = 8) (hok : ∀ p ∈ ps, p.l.length ≤ 1000) : Calls Try.prog 18 #[.pointer (some ⟨g, 0, none⟩)] w fun e w' => ∃ K ss, e = .returned (.pointer (some ⟨K, 0, none⟩)) ∧ Hid (ss.length = 8 ∧ All (xrollL K (List.zipWith withS ps ss) ++ (xrollL g ps ++ cs)) w') := by
  have C0 := hid (xroll_new hA)
  have H8 := hid h8
  have HK := hid hok
  clear hA h8 hok
  go_enter Try.func18, Try.ntmps18
  go_wp2_with fail
  refine C0.out.mono ?_
  rintro e w1 ⟨K, rfl, A1⟩
  have A1 := hid A1
  clear C0
  go_wp2
  go_loopw [4] (fun iv wr => (∃ (k : Nat) (ss : List Value), iv = .int .i64 (k : Int) ∧ k ≤ 8 ∧ Hid (ss.length = k ∧ All (xrollL K (cpy ps ss) ++ (xrollL g ps ++ cs)) wr))) (fun iv _ => 8 - (intOf iv).toNat)
  case atStart => exact ⟨0, [], rfl, by omega, hid ⟨rfl, by simpa [cpy] using A1.out⟩⟩
  case round =>
    obtain ⟨i, ss, rfl, hi8, HI⟩ := hrel
    clear A1
    by_cases hlt : i < 8
    case neg =>
      obtain rfl : i = 8 := by omega
      go_wp2
      go_ret
      exact ⟨K, ss, rfl, hid ⟨HI.out.1, by have := HI.out.2; rw [cpy_end HI.out.1] at this; exact this⟩⟩
    have el : decide ((i : Int) < 8) = true := by simp; omega
    have hI : (i : Int) < 8 := by omega
    obtain ⟨p, hp⟩ : ∃ p, Hid (ps[i]? = some p) := ⟨_, hid (List.getElem?_eq_getElem (by rw [H8.out]; exact hlt))⟩
    have HL : Hid (p.l.length ≤ 1000) := hid (HK.out p (List.mem_of_getElem? hp.out))
    obtain ⟨Q, hQ⟩ : ∃ Q, Hid (Q = cpy ps ss) := ⟨_, hid rfl⟩
    have HS := hid HI.out.1
    have HQ : Hid (Q.length = 8 ∧ Q[i]? = some .zero) := hid ⟨by rw [hQ.out]; exact cpy_len H8.out (by rw [HS.out]; exact hi8), by have := cpy_at (ps := ps) (ss := ss) H8.out (by rw [HS.out]; exact hlt); rw [HS.out] at this; rw [hQ.out]; exact this⟩
    have J1 := hid HI.out.2
    rw [← hQ.out] at J1
    clear HI
    obtain ⟨hK, _⟩ := J1.out.xplace HQ.out.2
    have hg := ((J1.out.sublist (List.sublist_append_right _ _)).xplace hp.out).1
    have k0 := (xcells HQ.out.1 hK HQ.out.2).1
    have c0 := (xcells H8.out hg hp.out).1
    have fK : wr.frozen? ⟨K, 40 + i, none⟩ = false := free_at hK _
    have hKl : K < wr.heap.size := (Array.getElem?_eq_some_iff.1 hK).1
    have hgl : g < wr.heap.size := (Array.getElem?_eq_some_iff.1 hg).1
    have J2 := hid (J1.out.xhas HQ.out.1 HQ.out.2 p.on).drew
    clear hK hg J1
    go_upto_region 5 with fail
    go_region
    clear k0 c0 fK hKl hgl
    generalize (wr.setCell ⟨K, 40 + i, none⟩ (.bool p.on)).drew = w3 at J2 ⊢
    obtain ⟨Q2, hQ2⟩ : ∃ Q2, Hid (Q2 = Q.set i { Pl.zero with on := p.on }) := ⟨_, hid rfl⟩
    rw [← hQ2.out] at J2
    have HQ2 : Hid (Q2.length = 8 ∧ Q2[i]? = some { Pl.zero with on := p.on }) := hid ⟨by rw [hQ2.out, List.length_set]; exact HQ.out.1, by rw [hQ2.out, List.getElem?_set]; simp [HQ.out.1, hlt]⟩
    obtain ⟨hg, hTp⟩ := (J2.out.sublist (List.sublist_append_right _ _)).xplace hp.out
    obtain ⟨c0, c1, c2, c3, c4, c5⟩ := xcells H8.out hg hp.out
    obtain ⟨aop, cpp, e5⟩ := hTp.form
    rw [e5] at c5
    have E5 := hid e5
    have hgl : g < w3.heap.size := (Array.getElem?_eq_some_iff.1 hg).1
    have hKl : K < w3.heap.size := (Array.getElem?_eq_some_iff.1 (J2.out.xplace HQ2.out.2).1).1
    have FIN : Hid (∀ W, All (xrollL K Q2 ++ (xrollL g ps ++ cs)) W → Calls Try.prog 33 #[rowV p.n p.a p.c p.k (.slice aop p.l.length cpp)] W fun e w5 => ∃ ao' c', e = .returned (rowV p.n p.a p.c p.k (.slice ao' p.l.length c')) ∧ K < w5.heap.size ∧ w5.cell? ⟨K, i * 5, none⟩ = some (.int .i64 0) ∧ w5.cell? ⟨K, i * 5 + 1, none⟩ = some (.int .i64 0) ∧ w5.cell? ⟨K, i * 5 + 2, none⟩ = some (.int .i64 0) ∧ w5.cell? ⟨K, i * 5 + 3, none⟩ = some (.int .i64 0) ∧ w5.cell? ⟨K, i * 5 + 4, none⟩ = some (.slice none 0 0) ∧ (∀ j, w5.frozen? ⟨K, j, none⟩ = false) ∧
        Hid (All (xrollL K (cpy ps (ss ++ [.slice ao' p.l.length c'])) ++ (xrollL g ps ++ cs)) (((((w5.setCell ⟨K, i * 5, none⟩ (.int .i64 p.n)).setCell ⟨K, i * 5 + 1, none⟩ (.int .i64 p.a)).setCell ⟨K, i * 5 + 2, none⟩ (.int .i64 p.c)).setCell ⟨K, i * 5 + 3, none⟩ (.int .i64 p.k)).setCell ⟨K, i * 5 + 4, none⟩ (.slice ao' p.l.length c')))) := hid (by
      intro W hW
      have hTx := ((hW.sublist (List.sublist_append_right _ _)).xplace hp.out).2
      rw [E5.out] at hTx
      refine (xcopied_any hW p.n p.a p.c p.k hTx HL.out).mono ?_
      rintro e w5 ⟨ao', c', rfl, A5⟩
      obtain ⟨hK, _⟩ := A5.tail.xplace HQ2.out.2
      obtain ⟨_, k1, k2, k3, k4, k5⟩ := xcells HQ2.out.1 hK HQ2.out.2
      refine ⟨ao', c', rfl, (Array.getElem?_eq_some_iff.1 hK).1, k1, k2, k3, k4, k5, fun j => free_at hK j, hid ?_⟩
      have A6 := A5.xrow (n := p.n) (a := p.a) (c := p.c) (k := p.k) HQ2.out.1 HQ2.out.2
      rw [hQ2.out, List.set_set, hQ.out] at A6
      have e7 := cpy_set (p := p) H8.out (by rw [HS.out]; exact hlt) (by rw [HS.out]; exact hp.out) (.slice ao' p.l.length c')
      rw [HS.out] at e7
      rw [← e7]
      exact A6)
    have C3 := hid (FIN.out w3.drew J2.out.drew)
    clear FIN hg hTp e5 J2
    go_upto_region 6 with fail
    all_goals go_region_law (go_simp; go_at_call 33; refine C3.out.mono ?_; rintro e w5 ⟨ao', c', rfl, hKl5, k1, k2, k3, k4, k5, cf, H5⟩)
    all_goals clear C3 k1 k2 k3 k4 k5 cf c0 c1 c2 c3 c4 c5 hgl hKl
    all_goals
      go_wp2
      go_roundw
      case rel => exact ⟨i + 1, ss ++ [.slice ao' p.l.length c'], by go_num, by omega, hid ⟨by simp [HS.out], H5.out⟩⟩
      case measure => simp [intOf]; omega

end Go.Proofs.Ytagdpfghooogfaa

namespace Go.Proofs.Ytagdpfghooogfaa
open Go.RowKit
set_option linter.unusedVariables false

/-- The twin so far: its first places have lists of their own. -/
def mixS (ps : List Pl) (ss : List Value) : List Pl := List.zipWith withS ps ss ++ ps.drop ss.length
theorem mixS_nil (ps : List Pl) : mixS ps [] = ps := by simp [mixS]
theorem mixS_at {ps : List Pl} {ss : List Value} (hs : ss.length < ps.length) : (mixS ps ss)[ss.length]? = ps[ss.length]? := by
  unfold mixS
  have e : (List.zipWith withS ps ss).length = ss.length := by simp; omega
  rw [List.getElem?_append_right (by omega), e, Nat.sub_self, List.getElem?_drop]
  rfl
theorem mixS_set {ps : List Pl} {ss : List Value} {p : Pl} (hp : ps[ss.length]? = some p) (s : Value) : (mixS ps ss).set ss.length (withS p s) = mixS ps (ss ++ [s]) := by
  unfold mixS
  have hs := (List.getElem?_eq_some_iff.1 hp).1
  have e : (List.zipWith withS ps ss).length = ss.length := by simp; omega
  rw [zipS_snoc ps ss p s hp, List.set_append_right _ _ (by omega), e, Nat.sub_self, List.drop_eq_getElem_cons hs, List.set_cons_zero]
  simp
theorem mixS_end {ps : List Pl} {ss : List Value} (hs : ss.length = ps.length) : mixS ps ss = List.zipWith withS ps ss := by
  unfold mixS; rw [hs]; simp
theorem flatP_len (ps : List Pl) : (flatP ps).length = 6 * ps.length := by
  induction ps with
  | nil => rfl
  | cons p ps ih => simp only [flatP, List.flatMap_cons, List.length_append, List.length_cons] at ih ⊢; rw [ih]; simp [Pl.cells]; omega

theorem flatP_row {ps : List Pl} {i : Nat} {p : Pl} (h : ps[i]? = some p) (s : Value) : (((((flatP ps).set (i * 6 + 1) (.int .i64 p.n)).set (i * 6 + 2) (.int .i64 p.a)).set (i * 6 + 3) (.int .i64 p.c)).set (i * 6 + 4) (.int .i64 p.k)).set (i * 6 + 5) s = flatP (ps.set i (withS p s)) := by
  have e := flatP_set (q := withS p s) h
  have e0 : (flatP ps).set (i * 6) (.bool (withS p s).on) = flatP ps := set_same (flatP_at h (j := 0) (by omega))
  rw [e0] at e
  exact e

set_option maxHeartbeats 3200000 in
set_option maxRecDepth 1000000 in
theorem rclone_any {g : Nat} {ps : List Pl} {cs : List Comp} {w : World} (hA : All (rollL g ps ++ cs) w) (h8 : ps.length = 8) (hok : ∀ p ∈ ps, p.l.length ≤ 1000) : Calls Try.prog 17 #[.pointer (some ⟨g, 0, none⟩)] w fun e w' => ∃ K ss, e = .returned (.pointer (some ⟨K, 0, none⟩)) ∧ Hid (ss.length = 8 ∧ All (rollL K (List.zipWith withS ps ss) ++ (rollL g ps ++ cs)) w') := by
  have hg : w.heap[g]? = some (.cells (flatP ps).toArray 69 (0, 0)) := hA.blk (by simp [rollL])
  have hgl : g < w.heap.size := (Array.getElem?_eq_some_iff.1 hg).1
  have hlists : ∀ (i : Nat) (p : Pl), ps[i]? = some p → ∃ ao c, p.s = Value.slice ao p.l.length c := fun i p hp => (hA.place hp).2.form
  obtain ⟨C, hC⟩ : ∃ C, Hid (C = (flatP ps).toArray) := ⟨_, hid rfl⟩
  have hCs : C.size = 48 := by rw [hC.out, List.size_toArray, flatP_len, h8]
  have hC1 : C.all (·.oneCell') = true := by
    rw [hC.out]
    simp only [List.all_toArray, List.all_eq_true]
    intro v hv
    obtain ⟨p, hp, hv⟩ := List.mem_flatMap.1 hv
    obtain ⟨i, hi⟩ := List.getElem?_of_mem hp
    obtain ⟨ao, c, e⟩ := hlists i p hi
    simp only [Pl.cells, e, List.mem_cons, List.not_mem_nil, or_false] at hv
    rcases hv with rfl | rfl | rfl | rfl | rfl | rfl <;> rfl
  have hi69 : (Try.prog.info? 69).map (·.size) = some C.size := by rw [hCs]; kernel_rfl
  have AZ : Hid (∀ Z : Array Value, All (blkC w.heap.size (flatP (mixS ps [])) 69 :: ((List.zipWith withS ps []).map Pl.part ++ (rollL g ps ++ cs))) ((w.alloc (.cells Z 69)).setRow w.heap.size C)) := hid (fun Z => by
    rw [mixS_nil]
    simp only [List.zipWith_nil_right, List.map_nil, List.nil_append]
    refine hA.add (c := blkC w.heap.size (flatP ps) 69) (Fr.below ⟨rfl, rfl, rfl, by simp, fun k hk => ?_⟩) (blkC_good _ _ _) ?_ (fun k hk => ?_)
    · rw [setRow_other _ _ _ _ (by omega), heap_alloc_old _ _ hk]
    · rw [hC.out]
      exact setRow_heap _ _ _ _ 69 (0, 0) (heap_alloc_new _ _)
    · have : k = w.heap.size := by simpa [blkC] using hk
      subst this
      exact ⟨Nat.le_refl _, by simp⟩)
  rw [← hC.out] at hg
  have HH := hid (show _ ∧ _ ∧ _ ∧ _ from ⟨hg, hi69, hC1, hCs⟩)
  have H8 := hid h8
  have HK := hid hok
  clear hA h8 hok hg hCs hC1 hi69 hlists
  go_enter Try.func17, Try.ntmps17
  go_wp2_with (first | (refine wpList_load_row rfl 69 _ rfl g rfl 69 C (0, 0) _ HH.out.1 Try.underlying69 rfl HH.out.2.1 ?_) | (refine wpList_store_row rfl 69 _ _ rfl w.heap.size C rfl rfl 69 _ (heap_alloc_new _ _) HH.out.2.1 (by rw [HH.out.2.2.2]; rfl) HH.out.2.2.1 ?_))
  generalize w.heap.size = K at AZ ⊢
  go_loopw [8] (fun iv wr => (∃ (k : Nat) (ss : List Value), iv = .int .i64 (k : Int) ∧ k ≤ 8 ∧ Hid (ss.length = k ∧ All (blkC K (flatP (mixS ps ss)) 69 :: ((List.zipWith withS ps ss).map Pl.part ++ (rollL g ps ++ cs))) wr))) (fun iv _ => 8 - (intOf iv).toNat)
  case atStart => exact ⟨0, [], rfl, by omega, hid ⟨rfl, AZ.out _⟩⟩
  case round =>
    obtain ⟨i, ss, rfl, hi8, HI⟩ := hrel
    clear AZ HH hgl
    by_cases hlt : i < 8
    case neg =>
      obtain rfl : i = 8 := by omega
      go_wp2
      go_ret
      exact ⟨K, ss, rfl, hid ⟨HI.out.1, by have := HI.out.2; rw [mixS_end (by rw [HI.out.1, H8.out])] at this; exact this⟩⟩
    have el : decide ((i : Int) < 8) = true := by simp; omega
    have hI : (i : Int) < 8 := by omega
    obtain ⟨p, hp⟩ : ∃ p, Hid (ps[i]? = some p) := ⟨_, hid (List.getElem?_eq_getElem (by rw [H8.out]; exact hlt))⟩
    have HL : Hid (p.l.length ≤ 1000) := hid (HK.out p (List.mem_of_getElem? hp.out))
    have HS := hid HI.out.1
    obtain ⟨Q, hQ⟩ : ∃ Q, Hid (Q = mixS ps ss) := ⟨_, hid rfl⟩
    have HQ : Hid (Q[i]? = some p) := hid (by have := mixS_at (ps := ps) (ss := ss) (by rw [HS.out, H8.out]; exact hlt); rw [HS.out] at this; rw [hQ.out, this]; exact hp.out)
    have J1 := hid HI.out.2
    rw [← hQ.out] at J1
    clear HI
    obtain ⟨hg, hTp⟩ := ((J1.out.tail.sublist (List.sublist_append_right _ _))).place hp.out
    obtain ⟨c0, c1, c2, c3, c4, c5⟩ := cells5 hg hp.out
    obtain ⟨aop, cpp, e5⟩ := hTp.form
    rw [e5] at c5 hTp
    have hgl : g < wr.heap.size := (Array.getElem?_eq_some_iff.1 hg).1
    have hKl : K < wr.heap.size := (Array.getElem?_eq_some_iff.1 J1.out.1.2.1).1
    have C1 := hid (copied_any J1.out p.n p.a p.c p.k hTp HL.out)
    have E5 := hid e5
    clear hg hTp J1 e5
    go_wp2_with fail
    refine C1.out.mono ?_
    rintro e w5 ⟨ao', c', rfl, A5, B5⟩
    have hK : w5.heap[K]? = some (.cells (flatP Q).toArray 69 (0, 0)) := A5.tail.1.2.1
    obtain ⟨k0, k1, k2, k3, k4, k5⟩ := cells5 hK HQ.out
    rw [E5.out] at k5
    have fK : ∀ j, w5.frozen? ⟨K, j, none⟩ = false := fun j => free_at hK j
    have hKl5 : K < w5.heap.size := (Array.getElem?_eq_some_iff.1 hK).1
    have A6 : Hid (All (blkC K (flatP (mixS ps (ss ++ [.slice ao' p.l.length c']))) 69 :: ((List.zipWith withS ps (ss ++ [.slice ao' p.l.length c'])).map Pl.part ++ (rollL g ps ++ cs))) (((((w5.setCell ⟨K, i * 6 + 1, none⟩ (.int .i64 p.n)).setCell ⟨K, i * 6 + 2, none⟩ (.int .i64 p.a)).setCell ⟨K, i * 6 + 3, none⟩ (.int .i64 p.c)).setCell ⟨K, i * 6 + 4, none⟩ (.int .i64 p.k)).setCell ⟨K, i * 6 + 5, none⟩ (.slice ao' p.l.length c'))) := hid (by
      have h1 := ((((A5.swap.setBlk (i * 6 + 1) (.int .i64 p.n)).setBlk (i * 6 + 2) (.int .i64 p.a)).setBlk (i * 6 + 3) (.int .i64 p.c)).setBlk (i * 6 + 4) (.int .i64 p.k)).setBlk (i * 6 + 5) (.slice ao' p.l.length c')
      rw [flatP_row HQ.out] at h1
      have e7 := mixS_set (ps := ps) (ss := ss) (p := p) (by rw [HS.out]; exact hp.out) (.slice ao' p.l.length c')
      rw [HS.out] at e7
      rw [hQ.out, e7] at h1
      have e8 := zipS_snoc ps ss p (.slice ao' p.l.length c') (by rw [HS.out]; exact hp.out)
      rw [e8]
      refine h1.perm ?_
      have := perm_by 4 [[blkC K (flatP (mixS ps (ss ++ [.slice ao' p.l.length c']))) 69], [ownC 9 (.slice ao' p.l.length c') (cellsT p.l)], (List.zipWith withS ps ss).map Pl.part, rollL g ps ++ cs] [0, 2, 1, 3] rfl (by decide)
      simpa [List.getD, withS, Pl.part] using this)
    clear C1 A5 B5 hK c0 c1 c2 c3 c4 c5 hgl hKl k0
    go_wp2
    go_roundw
    case rel => exact ⟨i + 1, ss ++ [.slice ao' p.l.length c'], by go_num, by omega, hid ⟨by simp [HS.out], A6.out⟩⟩
    case measure => simp [intOf]; omega

end Go.Proofs.Ytagdpfghooogfaa

namespace Go.Proofs.Ytagdpfghooogfaa
open Go.RowKit
set_option linter.unusedVariables false

/-- append: in place, or into a new row while the old one stays. -/
theorem wpList_append_two {P : Program} (w : World) {ops : Array Oper} {rest : List Oper} {o : Oper} {a : Act} {Q : Exit → Act → World → Prop} (hgd : o.guard = none) (s x : Operand) (t : TypeId)
    (ho : o.op = .call { callee := .builtin .append, args := #[s, x], argTypes := #[t, t] })
    (e : TypeId) (i : TypeInfo) (z : Value) (size bytes : Nat) (ht : P.underlying t = some (.slice e)) (hi : P.info? e = some i) (hz : i.zero = some z)
    (hsize : i.size = size) (hby : i.bytes = bytes) (hzs : z.cells.size = size) (hsz : 0 < size)
    (v : Value) (n : Nat) (xs : List Value) (hs : a.eval s = v) (hown : w.ownsRow 0 e size v n xs)
    (ad : Addr) (m c : Nat) (news : List Value) (hx : a.eval x = .slice (some ad) m c) (hl : news.length = m * size) (hnews : ∀ j u, news[j]? = some u → w.cell? (ad.add j) = some u) (h1 : ∀ u ∈ news, u.oneCell' = true)
    (hm : 0 < m) (h63 : n + m ≤ maxLen) (hbytes : (n + m) * bytes ≤ 140737488355328)
    (h : ∀ g cap w', w'.ownsRow 0 e size (.slice (some ⟨g, 0, none⟩) (n + m) cap) (n + m) (xs ++ news) → w.grownBy w' v.ownBlock → (v.ownBlock = some g ∨ (g = w.heap.size ∧ Below w.heap.size w w')) → wpList P ops Q rest (a.put o.dst (.slice (some ⟨g, 0, none⟩) (n + m) cap)) w') : wpList P ops Q (o :: rest) a w := by
  refine wpList_plain hgd fun K hK => ?_
  obtain ⟨v', w', hr, h2, h3, h4, h5⟩ := run_append_own_at (P := P) w 0 t o.type e i z size bytes ht hi hz hsize hby hzs hsz v n xs hown ad m c news hl hnews h1 h63 hbytes (by omega)
  subst hsize
  subst hby
  have hkey : ∃ g cap, v' = .slice (some ⟨g, 0, none⟩) (n + m) cap ∧ (v.ownBlock = some g ∨ (g = w.heap.size ∧ Below w.heap.size w w')) := by
    rcases h2.2 with ⟨_, e0⟩ | ⟨g, cap, cur, e1, _⟩
    · omega
    · refine ⟨g, cap, e1, ?_⟩
      rcases hown.2 with ⟨rfl, rfl⟩ | ⟨g0, cap0, cur0, rfl, _, hg0, hn0, _, hcs0, htake0⟩
      · right
        have hr2 := run_append_nil (P := P) w t o.type e i z ht hi hz ad m c news hl hnews hm (by simp only [maxLen] at h63; omega) (by have hb := hbytes; simp only [Nat.zero_add] at hb; omega)
        rw [hr] at hr2
        simp only [Result.ok.injEq] at hr2
        obtain ⟨rfl, rfl⟩ := hr2
        simp only [Value.slice.injEq, Option.some.injEq, Addr.mk.injEq, and_true] at e1
        exact ⟨e1.1.symm, ((Below.refl _ _).drew).alloc (Nat.le_refl _) _⟩
      · by_cases hroom : n + m ≤ cap0
        · left
          rcases h5 with e5 | e5
          · rw [e1] at e5; exact e5.symm
          · exfalso
            obtain ⟨w2, hr2, _, _⟩ := run_append_fits (P := P) w 0 t o.type e i i.size ht hi rfl g0 n cap0 xs hown ad m c news hl hnews h1 hroom
            rw [hr] at hr2
            simp only [Result.ok.injEq] at hr2
            rw [hr2.1] at e5
            simp [Value.ownBlock] at e5
            have := (Array.getElem?_eq_some_iff.1 hg0).1
            omega
        · right
          have hr2 := run_append_grow (P := P) w t o.type e i z ht hi hz ⟨g0, 0, none⟩ n cap0 xs hown.1 (hown.cells (g := g0) rfl) ad m c news hl hnews (by omega) (by simp only [maxLen] at h63; omega) (growslice_fits (by omega) hbytes)
          rw [hr] at hr2
          simp only [Result.ok.injEq] at hr2
          obtain ⟨rfl, rfl⟩ := hr2
          simp only [Value.slice.injEq, Option.some.injEq, Addr.mk.injEq, and_true] at e1
          exact ⟨e1.1.symm, ((Below.refl _ _).drew).alloc (Nat.le_refl _) _⟩
  obtain ⟨g, cap, rfl, hk⟩ := hkey
  unfold Oper.wp execOp
  simp only [ho, resolve, invoke, builtin, Sem.run_bind, Sem.run_pure, Result.andThen_ok, List.map_toArray, List.map_cons, List.map_nil, hs, hx, hr]
  exact hK _ _ (h g cap w' h2 h3 hk)


theorem All.weaken {c c' : Comp} {cs : List Comp} {w : World} (h : All (c :: cs) w) (hg : c'.Good) (hh : c.holds w → c'.holds w) (hf : ∀ k ∈ c'.fp, k ∈ c.fp) : All (c' :: cs) w :=
  ⟨⟨hg, hh h.1.2.1, fun k hk => h.1.2.2 k (hf k hk)⟩, fun d hd k hk => h.2.1 d hd k (hf k hk), h.2.2⟩

theorem owns_off {w : World} {base : Nat} {e : TypeId} {size : Nat} {v : Value} {n : Nat} {xs : List Value} (h : w.ownsRow base e size v n xs) : ∀ ga o sp n' c, v = .slice (some ⟨ga, o, sp⟩) n' c → o = 0 ∧ sp = none := by
  intro ga o sp n' c hv
  rcases h.2 with ⟨rfl, _⟩ | ⟨g, cap, cur, rfl, _⟩
  · simp at hv
  · simp only [Value.slice.injEq, Option.some.injEq, Addr.mk.injEq] at hv
    exact ⟨hv.1.2.1.symm, hv.1.2.2.symm⟩

/-- A list that is read: its cells. -/
def RdV (w : World) (v : Value) (xs : List Value) : Prop := ∃ ao c, v = .slice ao xs.length c ∧ ∀ j u, xs[j]? = some u → ∃ g, ao = some ⟨g, 0, none⟩ ∧ w.cell? ⟨g, j, none⟩ = some u

theorem RdV.of_owns {w : World} {base : Nat} {e : TypeId} {v : Value} {xs : List Value} (h : w.ownsRow base e 1 v xs.length xs) : RdV w v xs := by
  rcases h.2 with ⟨rfl, h0⟩ | ⟨g, cap, cur, rfl, hrest⟩
  · refine ⟨none, 0, by rw [h0], fun j u hu => ?_⟩
    have := (List.getElem?_eq_some_iff.1 hu).1
    omega
  · exact ⟨_, cap, rfl, fun j u hu => ⟨g, rfl, by simpa [Addr.add_lit] using World.ownsRow.cells h (g := g) rfl j u hu⟩⟩

theorem cell_same {w w' : World} {g j : Nat} (h : w'.heap[g]? = w.heap[g]?) : w'.cell? ⟨g, j, none⟩ = w.cell? ⟨g, j, none⟩ := by
  simp only [World.cell?, h]

theorem RdV.kept {w w' : World} {v : Value} {xs : List Value} (h : RdV w v xs) (hb : ∀ k, v.ownBlock = some k → w'.heap[k]? = w.heap[k]?) : RdV w' v xs := by
  obtain ⟨ao, c, rfl, hc⟩ := h
  refine ⟨ao, c, rfl, fun j u hu => ?_⟩
  obtain ⟨g, rfl, hg⟩ := hc j u hu
  exact ⟨g, rfl, by rw [cell_same (hb g rfl)]; exact hg⟩

/-- A list that is one's own. -/
abbrev En := Value × List Value
def eC (t : TypeId) (e : En) : Comp := ownC t e.1 e.2
/-- Two lists that are read. -/
def pC (p : En × En) : Comp := ⟨fun w => RdV w p.1.1 p.1.2 ∧ RdV w p.2.1 p.2.2, p.1.1.ownBlock.toList ++ p.2.1.ownBlock.toList⟩
theorem pC_good (p : En × En) : (pC p).Good := by
  intro w w' h hs hb
  exact ⟨h.1.kept (fun k hk => hb k (by simp [pC, hk])), h.2.kept (fun k hk => hb k (by simp [pC, hk]))⟩

/-- A list that grows: as it was, and as it is. -/
def extC (t : TypeId) (a : Value) (la : List Value) (lv : Value) (ll : List Value) : Comp := ⟨fun w => RdV w a la ∧ w.ownsRow 0 t 1 lv ll.length ll ∧ ∃ s, ll = la ++ s, a.ownBlock.toList ++ lv.ownBlock.toList⟩

theorem extC_good (t : TypeId) (a : Value) (la : List Value) (lv : Value) (ll : List Value) : (extC t a la lv ll).Good := by
  intro w w' h hs hb
  exact ⟨h.1.kept (fun k hk => hb k (by simp [extC, hk])), ownC_good t lv ll w w' h.2.1 hs (fun k hk => hb k (List.mem_append.2 (Or.inr hk))), h.2.2⟩

theorem All.ext_begin {t : TypeId} {a : Value} {la : List Value} {cs : List Comp} {w : World} (h : All (ownC t a la :: cs) w) : All (extC t a la a la :: cs) w :=
  h.weaken (extC_good _ _ _ _ _) (fun hh => ⟨RdV.of_owns hh, hh, [], by simp⟩) (fun k hk => by
    rcases List.mem_append.1 hk with hk | hk <;> exact hk)

theorem All.ext_end {t : TypeId} {a lv : Value} {la ll : List Value} {cs : List Comp} {w : World} (h : All (extC t a la lv ll :: cs) w) : All (pC ((a, la), (lv, ll)) :: cs) w :=
  h.weaken (pC_good _) (fun hh => ⟨hh.1, RdV.of_owns hh.2.1⟩) (fun k hk => hk)

/-- One more. -/
theorem All.ext_append {t : TypeId} {a lv x : Value} {la ll : List Value} {cs : List Comp} {w w1 : World} {g cap : Nat} (h : All (extC t a la lv ll :: cs) w) (hown : w1.ownsRow 0 t 1 (.slice (some ⟨g, 0, none⟩) (ll.length + 1) cap) (ll.length + 1) (ll ++ [x])) (hg : w.grownBy w1 lv.ownBlock) (hat : lv.ownBlock = some g ∨ (g = w.heap.size ∧ Below w.heap.size w w1)) :
    All (extC t a la (.slice (some ⟨g, 0, none⟩) (ll.length + 1) cap) (ll ++ [x]) :: cs) w1 := by
  obtain ⟨hra, hro, s, hs⟩ := h.1.2.1
  have hown' : w1.ownsRow 0 t 1 (.slice (some ⟨g, 0, none⟩) (ll.length + 1) cap) (ll ++ [x]).length (ll ++ [x]) := by
    rw [List.length_append]; exact hown
  have hf : Fr (extC t a la lv ll).fp w w1 := (grown_fr hg).mono (fun k hk => List.mem_append.2 (Or.inr hk))
  have hra1 : RdV w1 a la := by
    rcases hat with e | ⟨e, hb⟩
    · by_cases hab : a.ownBlock = some g
      · obtain ⟨ao, c, rfl, hcell⟩ := hra
        refine ⟨ao, c, rfl, fun j u hu => ?_⟩
        obtain ⟨ga, rfl, hga⟩ := hcell j u hu
        have hgg : ga = g := by simpa [Value.ownBlock] using hab
        subst hgg
        have hj := (List.getElem?_eq_some_iff.1 hu).1
        have q := World.ownsRow.cells hown' (g := ga) rfl j u (by
          rw [hs, List.append_assoc, List.getElem?_append_left hj]
          exact hu)
        exact ⟨ga, rfl, by simpa [Addr.add_lit] using q⟩
      · refine hra.kept (fun k hk => hg.block k (h.1.2.2 k (by simp [extC, hk])) (fun x => hab ?_))
        rw [e] at x
        rw [hk, x]
    · exact hra.kept (fun k hk => hb.block k (h.1.2.2 k (by simp [extC, hk])))
  refine h.turn hf (extC_good _ _ _ _ _) ⟨hra1, hown', s ++ [x], by rw [hs, List.append_assoc]⟩ (fun k hk => ?_) (fun k hk => ?_)
  · rcases List.mem_append.1 hk with hk | hk
    · exact Or.inl (List.mem_append.2 (Or.inl hk))
    · have hkg : k = g := by simpa [Value.ownBlock, eq_comm] using hk
      rcases hat with e | ⟨e, _⟩
      · exact Or.inl (List.mem_append.2 (Or.inr (by rw [e, hkg]; simp)))
      · exact Or.inr (by omega)
  · rcases List.mem_append.1 hk with hk | hk
    · exact Nat.lt_of_lt_of_le (h.1.2.2 k (List.mem_append.2 (Or.inl hk))) hg.size
    · have hkg : k = g := by simpa [Value.ownBlock, eq_comm] using hk
      rw [hkg]
      exact (World.ownsRow.lt hown' g rfl).2

theorem All.setOwn {t : TypeId} {g n cap k : Nat} {us : List Value} {u : Value} {cs : List Comp} {w : World} (h : All (ownC t (.slice (some ⟨g, 0, none⟩) n cap) us :: cs) w) : All (ownC t (.slice (some ⟨g, 0, none⟩) n cap) (us.set k u) :: cs) (w.setCell ⟨g, k, none⟩ u) := by
  have ho : w.ownsRow 0 t 1 (.slice (some ⟨g, 0, none⟩) n cap) us.length us := h.1.2.1
  obtain ⟨hn, _⟩ := owns_len ho
  subst hn
  have hs := (World.ownsRow.stored ho k u).1
  refine h.turn (Fr.setCell w g k _) (ownC_good _ _ _) ?_ (Gr.refl _ _) (fun k' hk' => ?_)
  · show World.ownsRow _ 0 t 1 _ (us.set k u).length _
    rw [List.length_set]; exact hs
  · have := h.1.2.2 k' hk'
    simpa [World.setCell] using this

theorem map_mid {α : Type} (f : α → Comp) {L : List α} {i : Nat} {e : α} (h : L[i]? = some e) (X cs : List Comp) (e' : α) :
    ((X ++ ((L.set i e').map f ++ cs)).Perm (f e' :: (X ++ ((L.take i ++ L.drop (i + 1)).map f ++ cs)))) ∧ ((X ++ (L.map f ++ cs)).Perm (f e :: (X ++ ((L.take i ++ L.drop (i + 1)).map f ++ cs)))) := by
  have hi := (List.getElem?_eq_some_iff.1 h).1
  have e1 : L.set i e' = L.take i ++ e' :: L.drop (i + 1) := List.set_eq_take_append_cons_drop ▸ (by simp [hi])
  have e2 : L = L.take i ++ e :: L.drop (i + 1) := by
    have := (List.getElem?_eq_some_iff.1 h).2
    rw [← this]
    simp
  have key : ∀ y : α, (X ++ ((L.take i ++ y :: L.drop (i + 1)).map f ++ cs)).Perm (f y :: (X ++ ((L.take i ++ L.drop (i + 1)).map f ++ cs))) := fun y => by
    have := List.perm_middle (a := f y) (l₁ := X ++ (L.take i).map f) (l₂ := (L.drop (i + 1)).map f ++ cs)
    simpa [List.append_assoc] using this
  refine ⟨by rw [e1]; exact key e', ?_⟩
  have := key e
  rw [← e2] at this
  exact this

/-- A cell of one of the lists is written. -/
theorem All.setAt {t : TypeId} {X cs : List Comp} {L : List En} {i k g n cap : Nat} {us : List Value} {w : World} (h : All (X ++ (L.map (eC t) ++ cs)) w) (hi : L[i]? = some (.slice (some ⟨g, 0, none⟩) n cap, us)) (u : Value) : All (X ++ ((L.set i (.slice (some ⟨g, 0, none⟩) n cap, us.set k u)).map (eC t) ++ cs)) (w.setCell ⟨g, k, none⟩ u) := by
  obtain ⟨p1, p2⟩ := map_mid (eC t) hi X cs (.slice (some ⟨g, 0, none⟩) n cap, us.set k u)
  have h1 := h.perm p2
  exact (All.setOwn (k := k) (u := u) h1).perm p1.symm

theorem All.at {t : TypeId} {X cs : List Comp} {L : List En} {i : Nat} {e : En} {w : World} (h : All (X ++ (L.map (eC t) ++ cs)) w) (hi : L[i]? = some e) : w.ownsRow 0 t 1 e.1 e.2.length e.2 :=
  (h.mem (c := eC t e) (List.mem_append_right _ (List.mem_append_left _ (List.mem_map_of_mem (List.mem_of_getElem? hi))))).2.1
end Go.Proofs.Ytagdpfghooogfaa

namespace Go.Proofs.Ytagdpfghooogfaa
open Go.RowKit
set_option linter.unusedVariables false

/-- The book while its lists are spoilt: those that have grown, and the others. -/
structure Sp (w : World) (b : Nat) (vi : Value) (is : List Value) (vt : Value) (ts : List Value) (RI : List (En × En)) (PI : List En) (RT : List (En × En)) (PT : List En) (cs : List Comp) : Prop where
  all : All (bookC b vi is vt ts ++ (RI.map pC ++ (PI.map (eC 9) ++ (RT.map pC ++ (PT.map (eC 5) ++ cs))))) w
  eis : is = RI.map (fun p => p.1.1) ++ (PI.map Prod.fst ++ RI.map (fun p => p.2.1))
  ets : ts = RT.map (fun p => p.1.1) ++ (PT.map Prod.fst ++ RT.map (fun p => p.2.1))

section
variable {w : World} {b : Nat} {vi : Value} {is : List Value} {vt : Value} {ts : List Value} {RI : List (En × En)} {PI : List En} {RT : List (En × En)} {PT : List En} {cs : List Comp}

theorem Sp.blk (h : Sp w b vi is vt ts RI PI RT PT cs) : w.heap[b]? = some (.cells #[vi, vt] 34 (0, 0)) := h.all.blk (by simp [bookC])
theorem Sp.rowI (h : Sp w b vi is vt ts RI PI RT PT cs) : w.ownsRow 0 35 1 vi is.length is := (h.all.mem (c := ownC 35 vi is) (by simp [bookC])).2.1
theorem Sp.rowT (h : Sp w b vi is vt ts RI PI RT PT cs) : w.ownsRow 0 40 1 vt ts.length ts := (h.all.mem (c := ownC 40 vt ts) (by simp [bookC])).2.1
theorem Sp.cell0 (h : Sp w b vi is vt ts RI PI RT PT cs) : w.cell? ⟨b, 0, none⟩ = some vi := by rw [cell_at h.blk]; rfl
theorem Sp.cell1 (h : Sp w b vi is vt ts RI PI RT PT cs) : w.cell? ⟨b, 1, none⟩ = some vt := by rw [cell_at h.blk]; rfl
theorem Sp.free0 (h : Sp w b vi is vt ts RI PI RT PT cs) : w.frozen? ⟨b, 0, none⟩ = false := free_at h.blk 0
theorem Sp.free1 (h : Sp w b vi is vt ts RI PI RT PT cs) : w.frozen? ⟨b, 1, none⟩ = false := free_at h.blk 1

theorem Sp.writeI {i k g n cap : Nat} {us : List Value} (h : Sp w b vi is vt ts [] PI [] PT cs) (hi : PI[i]? = some (.slice (some ⟨g, 0, none⟩) n cap, us)) (u : Value) : Sp (w.setCell ⟨g, k, none⟩ u) b vi is vt ts [] (PI.set i (.slice (some ⟨g, 0, none⟩) n cap, us.set k u)) [] PT cs := by
  refine ⟨?_, ?_, h.ets⟩
  · have h1 := h.all
    simp only [List.map_nil, List.nil_append] at h1 ⊢
    exact h1.setAt hi u
  · rw [h.eis]
    simp only [List.map_nil, List.nil_append, List.append_nil, List.map_set]
    refine List.ext_getElem? fun j => ?_
    rw [List.getElem?_set]
    split
    · rename_i hj
      subst hj
      have := (List.getElem?_eq_some_iff.1 hi).1
      have h2 := (List.getElem?_eq_some_iff.1 hi).2
      simp [this, h2]
    · rfl

theorem Sp.writeT {i k g n cap : Nat} {us : List Value} (h : Sp w b vi is vt ts [] PI [] PT cs) (hi : PT[i]? = some (.slice (some ⟨g, 0, none⟩) n cap, us)) (u : Value) : Sp (w.setCell ⟨g, k, none⟩ u) b vi is vt ts [] PI [] (PT.set i (.slice (some ⟨g, 0, none⟩) n cap, us.set k u)) cs := by
  refine ⟨?_, h.eis, ?_⟩
  · have h1 := h.all
    simp only [List.map_nil, List.nil_append] at h1 ⊢
    have h2 : All ((bookC b vi is vt ts ++ PI.map (eC 9)) ++ (PT.map (eC 5) ++ cs)) w := by simpa [List.append_assoc] using h1
    simpa [List.append_assoc] using h2.setAt (k := k) hi u
  · rw [h.ets]
    simp only [List.map_nil, List.nil_append, List.append_nil, List.map_set]
    refine List.ext_getElem? fun j => ?_
    rw [List.getElem?_set]
    split
    · rename_i hj
      subst hj
      have := (List.getElem?_eq_some_iff.1 hi).1
      have h2 := (List.getElem?_eq_some_iff.1 hi).2
      simp [this, h2]
    · rfl

theorem Sp.ownI (h : Sp w b vi is vt ts RI PI RT PT cs) {e : En} (he : e ∈ PI) : w.ownsRow 0 9 1 e.1 e.2.length e.2 := (h.all.mem (c := eC 9 e) (by simp only [List.mem_append, List.mem_map]; exact .inr (.inr (.inl ⟨e, he, rfl⟩)))).2.1
theorem Sp.ownT (h : Sp w b vi is vt ts RI PI RT PT cs) {e : En} (he : e ∈ PT) : w.ownsRow 0 5 1 e.1 e.2.length e.2 := (h.all.mem (c := eC 5 e) (by simp only [List.mem_append, List.mem_map]; exact .inr (.inr (.inr (.inr (.inl ⟨e, he, rfl⟩)))))).2.1
theorem Sp.pairI (h : Sp w b vi is vt ts RI PI RT PT cs) {p : En × En} (hp : p ∈ RI) : RdV w p.1.1 p.1.2 ∧ RdV w p.2.1 p.2.2 := (h.all.mem (c := pC p) (by simp only [List.mem_append, List.mem_map]; exact .inr (.inl ⟨p, hp, rfl⟩))).2.1
theorem Sp.pairT (h : Sp w b vi is vt ts RI PI RT PT cs) {p : En × En} (hp : p ∈ RT) : RdV w p.1.1 p.1.2 ∧ RdV w p.2.1 p.2.2 := (h.all.mem (c := pC p) (by simp only [List.mem_append, List.mem_map]; exact .inr (.inr (.inr (.inl ⟨p, hp, rfl⟩))))).2.1
theorem Sp.drewN (h : Sp w b vi is vt ts RI PI RT PT cs) (q : Nat) : Sp (w.drewN q) b vi is vt ts RI PI RT PT cs := ⟨h.all.drewN q, h.eis, h.ets⟩
end

def Short (L : List En) : Prop := ∀ e ∈ L, e.2.length ≤ 1000
/-- The first ones bear their marks. -/
def Marked (mk : Nat → Value) (i : Nat) (L : List En) : Prop := ∀ k e, L[k]? = some e → k < i → e.2 = List.replicate e.2.length (mk k)


/-- The others bear their marks. -/
def From (mk : Nat → Value) (i : Nat) (L : List En) : Prop := ∀ k e, L[k]? = some e → e.2 = List.replicate e.2.length (mk (i + k))
def Grown (mk : Nat → Value) (R : List (En × En)) : Prop := ∀ k p, R[k]? = some p → (p.1.2 = List.replicate p.1.2.length (mk k) ∧ p.1.2.length ≤ 2000) ∧ p.2.2 = List.replicate p.2.2.length (mk k) ∧ p.2.2.length ≤ 2000

theorem From.of {mk : Nat → Value} {n : Nat} {L : List En} (h : Marked mk n L) (hn : L.length = n) : From mk 0 L := fun k e hk => by
  rw [Nat.zero_add]
  exact h k e hk (by rw [← hn]; exact (List.getElem?_eq_some_iff.1 hk).1)
theorem From.tail {mk : Nat → Value} {i : Nat} {e : En} {L : List En} (h : From mk i (e :: L)) : From mk (i + 1) L := fun k x hk => by
  have := h (k + 1) x (by simpa using hk)
  rw [show i + 1 + k = i + (k + 1) by omega]
  exact this
theorem From.head {mk : Nat → Value} {i : Nat} {e : En} {L : List En} (h : From mk i (e :: L)) : e.2 = List.replicate e.2.length (mk i) := h 0 e rfl
theorem Grown.snoc {mk : Nat → Value} {R : List (En × En)} {a b : Value} {la lb : List Value} (h : Grown mk R) (h1 : la = List.replicate la.length (mk R.length)) (h2 : lb = List.replicate lb.length (mk R.length)) (h3 : la.length ≤ 2000) (h4 : lb.length ≤ 2000) : Grown mk (R ++ [((a, la), (b, lb))]) := fun k p hk => by
  by_cases hl : k < R.length
  · rw [List.getElem?_append_left hl] at hk
    exact h k p hk
  · rw [List.getElem?_append_right (by omega)] at hk
    have : k - R.length = 0 := by
      have := (List.getElem?_eq_some_iff.1 hk).1
      simp at this
      omega
    rw [this] at hk
    simp at hk
    subst hk
    have : k = R.length := by omega
    subst this
    exact ⟨⟨h1, h3⟩, h2, h4⟩
theorem repl_more {mk : Value} {l : List Value} (j : Nat) (h : l = List.replicate l.length mk) : l ++ List.replicate j mk = List.replicate (l ++ List.replicate j mk).length mk := by
  rw [List.length_append, List.length_replicate, ← List.replicate_append_replicate, ← h]

section
variable {w : World} {b : Nat} {vi : Value} {is : List Value} {vt : Value} {ts : List Value} {RI : List (En × En)} {PI : List En} {RT : List (En × En)} {PT : List En} {cs : List Comp}

theorem Sp.beginI {e : En} (h : Sp w b vi is vt ts RI (e :: PI) RT PT cs) : All (extC 9 e.1 e.2 e.1 e.2 :: (bookC b vi is vt ts ++ (RI.map pC ++ (PI.map (eC 9) ++ (RT.map pC ++ (PT.map (eC 5) ++ cs)))))) w := by
  refine All.ext_begin (h.all.perm ?_)
  have := List.perm_middle (a := eC 9 e) (l₁ := bookC b vi is vt ts ++ RI.map pC) (l₂ := PI.map (eC 9) ++ (RT.map pC ++ (PT.map (eC 5) ++ cs)))
  simpa [List.append_assoc, eC] using this

theorem Sp.beginT {e : En} (h : Sp w b vi is vt ts RI PI RT (e :: PT) cs) : All (extC 5 e.1 e.2 e.1 e.2 :: (bookC b vi is vt ts ++ (RI.map pC ++ (PI.map (eC 9) ++ (RT.map pC ++ (PT.map (eC 5) ++ cs)))))) w := by
  refine All.ext_begin (h.all.perm ?_)
  have := List.perm_middle (a := eC 5 e) (l₁ := bookC b vi is vt ts ++ (RI.map pC ++ (PI.map (eC 9) ++ RT.map pC))) (l₂ := PT.map (eC 5) ++ cs)
  simpa [List.append_assoc, eC] using this

theorem Sp.endI {e : En} {lv : Value} {ll is' : List Value} (h : All (extC 9 e.1 e.2 lv ll :: (bookC b vi is' vt ts ++ (RI.map pC ++ (PI.map (eC 9) ++ (RT.map pC ++ (PT.map (eC 5) ++ cs)))))) w) (eis : is = RI.map (fun p => p.1.1) ++ ((e :: PI).map Prod.fst ++ RI.map (fun p => p.2.1))) (ets : ts = RT.map (fun p => p.1.1) ++ (PT.map Prod.fst ++ RT.map (fun p => p.2.1))) (e' : is' = is ++ [lv]) : Sp w b vi is' vt ts (RI ++ [(e, (lv, ll))]) PI RT PT cs := by
  refine ⟨h.ext_end.perm ?_, by rw [e', eis]; simp, ets⟩
  have := List.perm_middle (a := pC (e, (lv, ll))) (l₁ := bookC b vi is' vt ts ++ RI.map pC) (l₂ := PI.map (eC 9) ++ (RT.map pC ++ (PT.map (eC 5) ++ cs)))
  simpa [List.append_assoc] using this.symm

theorem Sp.endT {e : En} {lv : Value} {ll ts' : List Value} (h : All (extC 5 e.1 e.2 lv ll :: (bookC b vi is vt ts' ++ (RI.map pC ++ (PI.map (eC 9) ++ (RT.map pC ++ (PT.map (eC 5) ++ cs)))))) w) (eis : is = RI.map (fun p => p.1.1) ++ (PI.map Prod.fst ++ RI.map (fun p => p.2.1))) (ets : ts = RT.map (fun p => p.1.1) ++ ((e :: PT).map Prod.fst ++ RT.map (fun p => p.2.1))) (e' : ts' = ts ++ [lv]) : Sp w b vi is vt ts' RI PI (RT ++ [(e, (lv, ll))]) PT cs := by
  refine ⟨h.ext_end.perm ?_, eis, by rw [e', ets]; simp⟩
  have := List.perm_middle (a := pC (e, (lv, ll))) (l₁ := bookC b vi is vt ts' ++ (RI.map pC ++ (PI.map (eC 9) ++ RT.map pC))) (l₂ := PT.map (eC 5) ++ cs)
  simpa [List.append_assoc] using this.symm

variable {x : Comp} {D : List Comp} {w1 : World} {v' lv : Value} {o : Obj}
theorem growI (A : All (x :: (bookC b vi is vt ts ++ D)) w) (hown : w1.ownsRow 0 35 1 v' (is.length + 1) (is ++ [lv])) (hgr : (w.alloc o).grownBy w1 vi.ownBlock) (hat : v'.ownBlock = vi.ownBlock ∨ v'.ownBlock = some (w.alloc o).heap.size) :
    w1.cell? ⟨b, 0, none⟩ = some vi ∧ w1.frozen? ⟨b, 0, none⟩ = false ∧ All (x :: (bookC b v' (is ++ [lv]) vt ts ++ D)) (w1.setCell ⟨b, 0, none⟩ v') := by
  have A1 : All (ownC 35 vi is :: blkC b [vi, vt] 34 :: x :: ownC 40 vt ts :: D) w := A.perm (by
    have := perm_by 5 [[x], [blkC b [vi, vt] 34], [ownC 35 vi is], [ownC 40 vt ts], D] [2, 1, 0, 3, 4] rfl (by decide)
    simpa [bookC, List.getD] using this)
  have A2 := (A1.alloc o).ownGrow (vs' := is ++ [lv]) (base := 0) (v' := v') (by simpa using hown) hgr hat
  have eb : w1.heap[b]? = some (.cells #[vi, vt] 34 (0, 0)) := A2.tail.1.2.1
  refine ⟨by rw [cell_at eb]; rfl, free_at eb 0, ?_⟩
  have A3 := A2.swap.setBlk 0 v'
  refine A3.perm ?_
  have := perm_by 5 [[blkC b [v', vt] 34], [ownC 35 v' (is ++ [lv])], [x], [ownC 40 vt ts], D] [2, 0, 1, 3, 4] rfl (by decide)
  simpa [bookC, List.getD] using this

theorem growT (A : All (x :: (bookC b vi is vt ts ++ D)) w) (hown : w1.ownsRow 0 40 1 v' (ts.length + 1) (ts ++ [lv])) (hgr : (w.alloc o).grownBy w1 vt.ownBlock) (hat : v'.ownBlock = vt.ownBlock ∨ v'.ownBlock = some (w.alloc o).heap.size) :
    w1.cell? ⟨b, 1, none⟩ = some vt ∧ w1.frozen? ⟨b, 1, none⟩ = false ∧ All (x :: (bookC b vi is v' (ts ++ [lv]) ++ D)) (w1.setCell ⟨b, 1, none⟩ v') := by
  have A1 : All (ownC 40 vt ts :: blkC b [vi, vt] 34 :: x :: ownC 35 vi is :: D) w := A.perm (by
    have := perm_by 5 [[x], [blkC b [vi, vt] 34], [ownC 35 vi is], [ownC 40 vt ts], D] [3, 1, 0, 2, 4] rfl (by decide)
    simpa [bookC, List.getD] using this)
  have A2 := (A1.alloc o).ownGrow (vs' := ts ++ [lv]) (base := 0) (v' := v') (by simpa using hown) hgr hat
  have eb : w1.heap[b]? = some (.cells #[vi, vt] 34 (0, 0)) := A2.tail.1.2.1
  refine ⟨by rw [cell_at eb]; rfl, free_at eb 1, ?_⟩
  have A3 := A2.swap.setBlk 1 v'
  refine A3.perm ?_
  have := perm_by 5 [[blkC b [vi, v'] 34], [ownC 40 v' (ts ++ [lv])], [x], [ownC 35 vi is], D] [2, 0, 3, 1, 4] rfl (by decide)
  simpa [bookC, List.getD] using this
end

theorem readI {b n k : Nat} {vi vt : Value} {is ts : List Value} {RI RT : List (En × En)} {cs : List Comp} {mk : Nat → Value} (hl : RI.length = n) (hg : Grown mk RI) (hk : k < 2 * n) (eis : is = RI.map (fun p => p.1.1) ++ (([] : List En).map Prod.fst ++ RI.map (fun p => p.2.1))) : ∃ u mx, is[k]? = some u ∧ mx ≤ 2000 ∧ ∀ W, Sp W b vi is vt ts RI [] RT [] cs → RdV W u (List.replicate mx (mk (k % n))) := by
  by_cases hkn : k < n
  · have hp : RI[k]? = some RI[k] := List.getElem?_eq_getElem (by omega)
    obtain ⟨⟨e1, b1⟩, e2, b2⟩ := hg k _ hp
    refine ⟨RI[k].1.1, RI[k].1.2.length, ?_, b1, fun W hW => ?_⟩
    · rw [eis, List.getElem?_append_left (by simp; omega)]; simp [hp]
    · rw [Nat.mod_eq_of_lt hkn, ← e1]
      exact (hW.pairI (List.getElem_mem _)).1
  · have hkm : k - n < RI.length := by omega
    have hp : RI[k - n]? = some RI[k - n] := List.getElem?_eq_getElem hkm
    obtain ⟨⟨e1, b1⟩, e2, b2⟩ := hg (k - n) _ hp
    refine ⟨RI[k - n].2.1, RI[k - n].2.2.length, ?_, b2, fun W hW => ?_⟩
    · rw [eis, List.getElem?_append_right (by simp; omega)]; simp [hl, hp]
    · have : k % n = k - n := by rw [Nat.mod_eq_sub_mod (by omega), Nat.mod_eq_of_lt (by omega)]
      rw [this, ← e2]
      exact (hW.pairI (List.getElem_mem _)).2

theorem readT {b n k : Nat} {vi vt : Value} {is ts : List Value} {RI RT : List (En × En)} {cs : List Comp} {mk : Nat → Value} (hl : RT.length = n) (hg : Grown mk RT) (hk : k < 2 * n) (ets : ts = RT.map (fun p => p.1.1) ++ (([] : List En).map Prod.fst ++ RT.map (fun p => p.2.1))) : ∃ u mx, ts[k]? = some u ∧ mx ≤ 2000 ∧ ∀ W, Sp W b vi is vt ts RI [] RT [] cs → RdV W u (List.replicate mx (mk (k % n))) := by
  by_cases hkn : k < n
  · have hp : RT[k]? = some RT[k] := List.getElem?_eq_getElem (by omega)
    obtain ⟨⟨e1, b1⟩, e2, b2⟩ := hg k _ hp
    refine ⟨RT[k].1.1, RT[k].1.2.length, ?_, b1, fun W hW => ?_⟩
    · rw [ets, List.getElem?_append_left (by simp; omega)]; simp [hp]
    · rw [Nat.mod_eq_of_lt hkn, ← e1]
      exact (hW.pairT (List.getElem_mem _)).1
  · have hkm : k - n < RT.length := by omega
    have hp : RT[k - n]? = some RT[k - n] := List.getElem?_eq_getElem hkm
    obtain ⟨⟨e1, b1⟩, e2, b2⟩ := hg (k - n) _ hp
    refine ⟨RT[k - n].2.1, RT[k - n].2.2.length, ?_, b2, fun W hW => ?_⟩
    · rw [ets, List.getElem?_append_right (by simp; omega)]; simp [hl, hp]
    · have : k % n = k - n := by rw [Nat.mod_eq_sub_mod (by omega), Nat.mod_eq_of_lt (by omega)]
      rw [this, ← e2]
      exact (hW.pairT (List.getElem_mem _)).2
end Go.Proofs.Ytagdpfghooogfaa
