import Derived.Test.YtagdpfghooogfaaJ6
import Derived.Deep.DeepCutAuto
namespace Go.Proofs.Ytagdpfghooogfaa
open Go.RowKit
set_option linter.unusedVariables false

theorem Try.info40 : (Try.prog.info? 40).map (fun i => (i.zero, i.size, i.bytes)) = some (some (.slice none 0 0), 1, 24) := by kernel_rfl

/-- Lists of bytes with the slices that they lie in. -/
def bpart (x : Value × List UInt8) : Comp := ownC 5 x.1 (cellsB x.2)
theorem fst_one {bl : List (Value × List UInt8)} (h : ∀ x ∈ bl, ∃ a n c, x.1 = .slice a n c) : ∀ u ∈ bl.map Prod.fst, u.oneCell' = true := by
  intro u hu
  obtain ⟨x, hx, rfl⟩ := List.mem_map.1 hu
  obtain ⟨a, n, c, e⟩ := h x hx
  rw [e]
  rfl

set_option maxHeartbeats 1600000 in
set_option maxRecDepth 1000000 in
theorem rows_any {g : Nat} {ps : List Pl} {cs : List Comp} {w : World} (h : All (rollL g ps ++ cs) w) (hok : OkP ps) :
    Calls Try.prog 19 #[.pointer (some ⟨g, 0, none⟩)] w fun e w' => ∃ (so : Option Addr) (sc : Nat) (bl : List (Value × List UInt8)), e = .returned (.slice so 8 sc) ∧ bl.map Prod.snd = ps.map Pl.bytes ∧ (∀ x ∈ bl, ∃ a c, x.1 = .slice a x.2.length c) ∧ All (ownC 40 (.slice so 8 sc) (bl.map Prod.fst) :: (bl.map bpart ++ (rollL g ps ++ cs))) w' := by
  have HA := hid h
  have HO := hid hok
  obtain ⟨i0, hi, hz0, hz1, hz2⟩ := info_parts Try.info40
  clear h hok
  go_enter Try.func19, Try.ntmps19
  go_wp2
  go_loopw [3, 4] (fun vv iv wr => ∃ (k : Nat) (so : Option Addr) (sc : Nat) (bl : List (Value × List UInt8)), vv = .slice so k sc ∧ iv = .int .i64 (k : Int) ∧ k ≤ 8 ∧ Hid (bl.map Prod.snd = (ps.take k).map Pl.bytes ∧ (∀ x ∈ bl, ∃ a c, x.1 = .slice a x.2.length c) ∧ All (ownC 40 (.slice so k sc) (bl.map Prod.fst) :: (bl.map bpart ++ (rollL g ps ++ cs))) wr)) (fun vv iv _ => 8 - (intOf iv).toNat)
  case atStart => exact ⟨0, none, 0, [], rfl, rfl, Nat.zero_le _, hid ⟨rfl, (fun x hx => absurd hx (by simp)), HA.out.addNil⟩⟩
  case round =>
    obtain ⟨k, so, sc, bl, rfl, rfl, hk, HI⟩ := hrel
    clear HA
    by_cases hlt : k < 8
    case neg =>
      obtain rfl : k = 8 := by omega
      go_wp2
      go_ret
      refine ⟨so, sc, bl, rfl, ?_, HI.out.2.1, HI.out.2.2⟩
      rw [HI.out.1, List.take_of_length_le (by rw [HO.out.1]; omega)]
    have el : decide ((k : Int) < 8) = true := by simp; omega
    obtain ⟨B, hB⟩ : ∃ B, Hid (B = (atP ps (k : Int)).bytes) := ⟨_, hid rfl⟩
    have A1 := hid (HI.out.2.2.perm (List.perm_append_comm_assoc (ownC 40 (.slice so k sc) (bl.map Prod.fst) :: bl.map bpart) (rollL g ps) cs))
    have CT := hid (tell_any A1.out HO.out (k : Int))
    rw [← hB.out] at CT
    have HS := hid (And.intro HI.out.1 HI.out.2.1)
    clear HI A1
    go_wp2_with fail
    refine CT.out.mono ?_
    rintro e w2 ⟨so', sc', rfl, A2⟩
    have A3 : All (ownC 40 (.slice so k sc) (bl.map Prod.fst) :: (bl.map bpart ++ (ownC 5 (.slice so' B.length sc') (cellsB B) :: (rollL g ps ++ cs)))) w2 := A2.perm (by
      have h1 := (List.perm_append_comm_assoc (rollL g ps) (ownC 40 (.slice so k sc) (bl.map Prod.fst) :: bl.map bpart) cs).cons (ownC 5 (.slice so' B.length sc') (cellsB B))
      refine h1.trans ?_
      simp only [List.cons_append]
      exact (List.Perm.swap _ _ _).trans ((List.perm_middle.symm).cons _))
    have hlen : bl.length = k := by
      have := congrArg List.length HS.out.1
      simp only [List.length_map, List.length_take, HO.out.1] at this
      omega
    have A4 := hid (A3.alloc (.cells #[.slice so' B.length sc'] 40))
    have hrow : (w2.alloc (.cells #[.slice so' B.length sc'] 40)).ownsRow 0 40 1 (.slice so k sc) k (bl.map Prod.fst) := by
      have h1 : (w2.alloc (.cells #[.slice so' B.length sc'] 40)).ownsRow 0 40 1 (.slice so k sc) (bl.map Prod.fst).length (bl.map Prod.fst) := A4.out.1.2.1
      rw [List.length_map, hlen] at h1
      exact h1
    have HLN := hid hlen
    obtain ⟨nB, hnB⟩ : ∃ nB, Hid (nB = B.length) := ⟨_, hid rfl⟩
    rw [← hnB.out] at A4 hrow ⊢
    have hnews : ∀ j u, [.slice so' nB sc'][j]? = some u → (w2.alloc (.cells #[.slice so' nB sc'] 40)).cell? ((⟨w2.heap.size, 0, none⟩ : Addr).add j) = some u := by
      intro j u hu
      rw [Addr.add_lit, cell_at (heap_alloc_new w2 _)]
      cases j with
      | zero => simpa using hu
      | succ j => simp at hu
    have hone : ∀ u ∈ [Value.slice so' nB sc'], u.oneCell' = true := by
      intro u hu
      simp only [List.mem_singleton] at hu
      subst hu
      rfl
    clear A2 A3 CT hlen
    go_wp2_with (at_builtin; refine wpList_append_own_at _ rfl (.tmp 9) (.tmp 13) 32 rfl 0 40 i0 (.slice none 0 0) 1 24 Try.underlying32 hi hz0 hz1 hz2 rfl (by decide) _ _ _ rfl hrow ⟨w2.heap.size, 0, none⟩ 1 1 [.slice so' nB sc'] rfl rfl hnews hone (by unfold maxLen; omega) (by omega) (by simp) ?_)
    intro v' w3 hown hgr _ hat
    have A5 := A4.out.ownGrow (vs' := (bl ++ [(Value.slice so' nB sc', B)]).map Prod.fst) (base := 0) (v' := v') (by
      rw [List.length_map, List.length_append, HLN.out]
      simpa using hown) hgr (by simpa using hat)
    obtain ⟨so2, sc2, rfl⟩ := owns_form hown
    have A6 : Hid (All (ownC 40 (.slice so2 (k + 1) sc2) ((bl ++ [(Value.slice so' nB sc', B)]).map Prod.fst) :: ((bl ++ [(Value.slice so' nB sc', B)]).map bpart ++ (rollL g ps ++ cs))) w3) := hid (by
      rw [List.map_append (f := bpart), List.append_assoc]
      exact A5)
    have H7 : Hid ((bl ++ [(Value.slice so' nB sc', B)]).map Prod.snd = (ps.take (k + 1)).map Pl.bytes ∧ ∀ x ∈ (bl ++ [(Value.slice so' nB sc', B)]), ∃ a c, x.1 = .slice a x.2.length c) := hid (by
      have hkp : k < ps.length := by rw [HO.out.1]; exact hlt
      constructor
      · rw [List.map_append, HS.out.1, List.take_succ_eq_append_getElem hkp, List.map_append]
        simp only [List.map_cons, List.map_nil]
        rw [hB.out]
        unfold atP
        rw [if_pos (by omega)]
        simp [List.getD, hkp]
      · intro x hx
        rcases List.mem_append.1 hx with hx | hx
        · exact HS.out.2 x hx
        · simp only [List.mem_singleton] at hx
          subst hx
          exact ⟨so', sc', by simp only; rw [hnB.out]⟩)
    clear hown hgr hat A4 A5 hrow hnews hone HS
    go_wp2
    go_roundw
    case rel => exact ⟨k + 1, so2, sc2, _, rfl, by go_num, by omega, hid ⟨H7.out.1, H7.out.2, A6.out⟩⟩
    case measure => simp [intOf]; omega

end Go.Proofs.Ytagdpfghooogfaa

namespace Go.Proofs.Ytagdpfghooogfaa
open Go.RowKit
set_option linter.unusedVariables false

/-- A statement in a box. -/
structure Box (p : Prop) : Prop where
  out : p

/-- A row that is handed in. -/
structure Rw0 where
  n : Int
  a : Int
  c : Int
  k : Int
  s : Value
  l : List ByteArray
def RowsAt (w : World) (v : Value) (xs : List Rw0) : Prop :=
  ∃ ao cp, v = .slice ao xs.length cp ∧ ∀ i x, xs[i]? = some x → x.l.length ≤ 9223372036854775807 ∧ ∃ g o, ao = some ⟨g, o, none⟩ ∧ g < w.heap.size ∧ w.cell? ⟨g, o + i * 5, none⟩ = some (.int .i64 x.n) ∧ w.cell? ⟨g, o + i * 5 + 1, none⟩ = some (.int .i64 x.a) ∧ w.cell? ⟨g, o + i * 5 + 2, none⟩ = some (.int .i64 x.c) ∧ w.cell? ⟨g, o + i * 5 + 3, none⟩ = some (.int .i64 x.k) ∧ w.cell? ⟨g, o + i * 5 + 4, none⟩ = some x.s ∧ Txts w x.s x.l
theorem RowsAt.form {w : World} {v : Value} {xs : List Rw0} (h : RowsAt w v xs) : ∃ ao cp, v = .slice ao xs.length cp := by obtain ⟨ao, c, e, _⟩ := h; exact ⟨ao, c, e⟩
theorem RowsAt.at {w W : World} {ao : Option Addr} {n cp : Nat} {xs : List Rw0} (h : RowsAt w (.slice ao n cp) xs) (hb : Below w.heap.size w W) {i : Nat} {x : Rw0} (hx : xs[i]? = some x) :
    x.l.length ≤ 9223372036854775807 ∧ ∃ g o, ao = some ⟨g, o, none⟩ ∧ g < w.heap.size ∧ W.cell? ⟨g, o + i * 5, none⟩ = some (.int .i64 x.n) ∧ W.cell? ⟨g, o + i * 5 + 1, none⟩ = some (.int .i64 x.a) ∧ W.cell? ⟨g, o + i * 5 + 2, none⟩ = some (.int .i64 x.c) ∧ W.cell? ⟨g, o + i * 5 + 3, none⟩ = some (.int .i64 x.k) ∧ W.cell? ⟨g, o + i * 5 + 4, none⟩ = some x.s ∧ Txts W x.s x.l := by
  obtain ⟨ao', c', e, hh⟩ := h
  simp only [Value.slice.injEq] at e
  obtain ⟨rfl, _, _⟩ := e
  obtain ⟨hl, g, o, h1, h2, h3, h4, h5, h6, h7, h8⟩ := hh i x hx
  exact ⟨hl, g, o, h1, h2, cell_under hb h2 h3, cell_under hb h2 h4, cell_under hb h2 h5, cell_under hb h2 h6, cell_under hb h2 h7, h8.later hb⟩

def IntsAt (w : World) (v : Value) (zs : List Int) : Prop :=
  ∃ ao cp, v = .slice ao zs.length cp ∧ ∀ i z, zs[i]? = some z → -9223372036854775808 ≤ z ∧ z < 9223372036854775808 ∧ ∃ g o, ao = some ⟨g, o, none⟩ ∧ g < w.heap.size ∧ w.cell? ⟨g, o + i, none⟩ = some (.int .i64 z)
theorem IntsAt.form {w : World} {v : Value} {zs : List Int} (h : IntsAt w v zs) : ∃ ao cp, v = .slice ao zs.length cp := by obtain ⟨ao, c, e, _⟩ := h; exact ⟨ao, c, e⟩
theorem IntsAt.at {w W : World} {ao : Option Addr} {n cp : Nat} {zs : List Int} (h : IntsAt w (.slice ao n cp) zs) (hb : Below w.heap.size w W) {i : Nat} {z : Int} (hx : zs[i]? = some z) :
    -9223372036854775808 ≤ z ∧ z < 9223372036854775808 ∧ ∃ g o, ao = some ⟨g, o, none⟩ ∧ g < w.heap.size ∧ W.cell? ⟨g, o + i, none⟩ = some (.int .i64 z) := by
  obtain ⟨ao', c', e, hh⟩ := h
  simp only [Value.slice.injEq] at e
  obtain ⟨rfl, _, _⟩ := e
  obtain ⟨h1, h2, g, o, h3, h4, h5⟩ := hh i z hx
  exact ⟨h1, h2, g, o, h3, h4, cell_under hb h4 h5⟩

end Go.Proofs.Ytagdpfghooogfaa

namespace Go.Proofs.Ytagdpfghooogfaa
open Go.RowKit
set_option linter.unusedVariables false

/-- What stands behind a list that is lent. -/
abbrev spS : Value := .string ⟨#[115, 112, 97, 114, 101]⟩

set_option maxHeartbeats 3200000 in
set_option maxRecDepth 1000000 in
/-- The owner looks at a list that was lent, and writes over it. -/
theorem gone_any {H : Nat} {s : Value} {l : List ByteArray} {cs : List Comp} {w : World} (hA : All (blkC H (cellsT l ++ [spS, spS, spS]) 9 :: cs) w) (hT : ∀ w', All cs w' → Txts w' s l) (hl : l.length ≤ 1048576) : Calls Try.prog 13 #[.slice (some ⟨H, 0, none⟩) (l.length + 3) (l.length + 3), s] w fun e w' => e = .returned (.bool true) ∧ All cs w' := by
  obtain ⟨ao, cp, rfl⟩ := (hT w hA.tail).form
  have HA := hid hA
  have HT := hid hT
  obtain ⟨m, hm⟩ : ∃ m, Hid (m = l.length) := ⟨_, hid rfl⟩
  have hm20 : m ≤ 1048576 := by rw [hm.out]; exact hl
  obtain ⟨L, hL⟩ : ∃ L, Hid (L = cellsT l ++ [spS, spS, spS]) := ⟨_, hid rfl⟩
  have HLl : Hid (L.length = m + 3) := hid (by rw [hL.out, hm.out]; simp [cellsT_length])
  rw [← hL.out] at HA
  rw [← hm.out] at HT ⊢
  have wm : IntKind.i64.wrap ((m : Int) + 3) = (m : Int) + 3 := by rw [IntKind.wrap_i64]; omega
  clear hA hT hl
  go_enter Try.func13, Try.ntmps13
  go_wp2
  go_loopw [5, 6] (fun tv iv wr => Box (∃ (i : Nat) (vs : List Value), iv = .int .i64 (i : Int) ∧ tv = .bool true ∧ i ≤ m + 3 ∧ Hid (vs.length = m + 3 ∧ (∀ j, i ≤ j → vs[j]? = L[j]?) ∧ All (blkC H vs 9 :: cs) wr))) (fun _ iv _ => m + 3 - (intOf iv).toNat)
  case atStart => exact ⟨⟨0, L, rfl, by simp, by omega, hid ⟨HLl.out, fun _ _ => rfl, HA.out⟩⟩⟩
  case round =>
    obtain ⟨i, vs, rfl, rfl, hi, HI⟩ := hrel.out
    clear hrel HA
    by_cases hlt : i < m + 3
    case neg =>
      have el : decide ((i : Int) < (m : Int) + 3) = false := by simp; omega
      go_wp2
      go_ret
      exact ⟨rfl, HI.out.2.2.tail⟩
    have el : decide ((i : Int) < (m : Int) + 3) = true := by simp; omega
    have hin : (i : Int) < (m : Int) + 3 := by omega
    have eH : wr.heap[H]? = some (.cells vs.toArray 9 (0, 0)) := HI.out.2.2.1.2.1
    have hHl : H < wr.heap.size := (Array.getElem?_eq_some_iff.1 eH).1
    have vi : vs[i]? = L[i]? := HI.out.2.1 i (Nat.le_refl _)
    have NX : Hid (∀ u, (vs.set i u).length = m + 3 ∧ ∀ j, i + 1 ≤ j → (vs.set i u)[j]? = L[j]?) := hid (fun u => ⟨by rw [List.length_set]; exact HI.out.1, fun j hj => by rw [List.getElem?_set_ne (by omega)]; exact HI.out.2.1 j (by omega)⟩)
    have J1 := hid HI.out.2.2
    clear HI
    go_upto_region 5 with fail
    go_cut [5] (fun tv wx => tv = .bool true ∧ ∃ q, wx = wr.drewN q)
    case first =>
      by_cases hm2 : i < m
      · have e1 : decide ((i : Int) < (m : Int)) = true := by simp; omega
        have hil : i < l.length := by rw [← hm.out]; exact hm2
        obtain ⟨x, hx⟩ : ∃ x, Hid (x = l[i]) := ⟨_, hid rfl⟩
        have cH : wr.cell? ⟨H, i, none⟩ = some (.string x) := by
          rw [cell_at eH]
          refine (List.getElem?_toArray ..).trans ?_
          rw [vi, hL.out, List.getElem?_append_left (by rw [cellsT_length]; exact hil), hx.out]
          simp [cellsT, hil]
        obtain ⟨ao', cp', e, _, hc⟩ := HT.out wr J1.out.tail
        rcases hc with hc | ⟨gt, ot, ea, hgt, hct⟩
        · rw [hc] at hil; simp at hil
        simp only [Value.slice.injEq] at e
        obtain ⟨rfl, _, rfl⟩ := e
        subst ea
        have ct := hct i hil
        rw [← hx.out] at ct
        have hinm : (i : Int) < (m : Int) := by omega
        have xx : (x.toList == x.toList) = true := by simp
        clear hct eH vi
        go_quiet (fail)
        go_wp2_with fail
        go_meet
        exact ⟨rfl, _, rfl⟩
      · have e1 : decide ((i : Int) < (m : Int)) = false := by simp; omega
        have e2 : decide ((m : Int) ≤ (i : Int)) = true := by simp; omega
        have n1 : decide (i < m) = false := by simpa using hm2
        have n2 : decide (m ≤ i) = true := by simp; omega
        obtain ⟨y, hy⟩ : ∃ y : ByteArray, Hid (y = ⟨#[115, 112, 97, 114, 101]⟩) := ⟨_, hid rfl⟩
        have YY : Hid ((y.toList == [115, 112, 97, 114, 101]) = true) := hid (by rw [hy.out]; unfold ByteArray.toList; rw [toList_loop _ _ 0 [] rfl]; rfl)
        have cH : wr.cell? ⟨H, i, none⟩ = some (.string y) := by
          rw [hy.out]
          rw [cell_at eH]
          refine (List.getElem?_toArray ..).trans ?_
          rw [vi, hL.out, List.getElem?_append_right (by rw [cellsT_length, ← hm.out]; omega), cellsT_length, ← hm.out]
          have : i - m = 0 ∨ i - m = 1 ∨ i - m = 2 := by omega
          rcases this with h | h | h <;> rw [h] <;> rfl
        clear eH vi
        go_quiet (fail)
        go_wp2_with fail
        go_meet
        exact ⟨congrArg Value.bool YY.out, _, rfl⟩
    case rest =>
    obtain ⟨rfl, q, rfl⟩ := hcut
    have J2 := hid (J1.out.drewN q)
    clear J1 eH hHl vi
    generalize wr.drewN q = w2 at J2 ⊢
    have eH : w2.heap[H]? = some (.cells vs.toArray 9 (0, 0)) := J2.out.1.2.1
    have hHl : H < w2.heap.size := (Array.getElem?_eq_some_iff.1 eH).1
    have hvl : i < vs.length := by have := (NX.out spS).1; rw [List.length_set] at this; omega
    obtain ⟨u, hu⟩ : ∃ u, vs[i]? = some u := ⟨_, List.getElem?_eq_getElem hvl⟩
    have cH : w2.cell? ⟨H, i, none⟩ = some u := by
      rw [cell_at eH]
      exact (List.getElem?_toArray ..).trans hu
    have fH : w2.frozen? ⟨H, i, none⟩ = false := free_at eH i
    clear eH hu hvl
    go_wp2
    go_roundw
    case rel => exact ⟨⟨i + 1, vs.set i (.string ⟨#[116, 104, 101, 32, 111, 119, 110, 101, 114, 39, 115]⟩), by go_num, rfl, by omega, hid ⟨(NX.out _).1, (NX.out _).2, J2.out.setBlk i _⟩⟩⟩
    case measure => simp [intOf]; omega

end Go.Proofs.Ytagdpfghooogfaa

namespace Go.Proofs.Ytagdpfghooogfaa
open Go.RowKit
set_option linter.unusedVariables false

/-- The zero row, for who has none. -/
theorem xlast_off {g : Nat} {cl : Int} {ps : List Pl} {cs : List Comp} {w : World} (h8 : ps.length = 8) (h : All (xrollL g ps ++ cs) w) (ho : (atP ps cl).on = false) : Calls Try.prog 34 #[.pointer (some ⟨g, 0, none⟩), .int .i64 cl] w fun e w' => e = .returned (.tuple #[rowV 0 0 0 0 (.slice none 0 0), .bool false]) ∧ All (xrollL g ps ++ cs) w' := by
  have HA1 := hid (h.addBlk [.int .i64 0, .int .i64 0, .int .i64 0, .int .i64 0, .slice none 0 0] 39)
  have FIN : Hid (∀ W, W = w.alloc (.cells #[.int .i64 0, .int .i64 0, .int .i64 0, .int .i64 0, .slice none 0 0] 39) → W.heap[w.heap.size]? = some (.cells #[.int .i64 0, .int .i64 0, .int .i64 0, .int .i64 0, .slice none 0 0] 39 (0, 0)) ∧ All (xrollL g ps ++ cs) W) := hid (by
    rintro W rfl
    exact ⟨HA1.out.1.2.1, HA1.out.tail⟩)
  by_cases h0 : cl < 0
  · have e0 : decide (cl < 0) = true := by simpa using h0
    clear h HA1 ho
    go_enter Try.func34, Try.ntmps34
    go_wp2
    obtain ⟨f1, f2⟩ := FIN.out _ rfl
    exact bodyPost_ret (v := .tuple #[rowV 0 0 0 0 (.slice none 0 0), .bool false]) (res34 (b := w.heap.size) rfl rfl f1) rfl ⟨rfl, f2⟩
  have e0 : decide (cl < 0) = false := by simpa using h0
  by_cases h7 : 7 < cl
  · have e7 : decide (7 < cl) = true := by simpa using h7
    clear h HA1 ho
    go_enter Try.func34, Try.ntmps34
    go_wp2
    obtain ⟨f1, f2⟩ := FIN.out _ rfl
    exact bodyPost_ret (v := .tuple #[rowV 0 0 0 0 (.slice none 0 0), .bool false]) (res34 (b := w.heap.size) rfl rfl f1) rfl ⟨rfl, f2⟩
  have e7 : decide (7 < cl) = false := by simpa using h7
  obtain ⟨i, rfl⟩ : ∃ i : Nat, cl = i := ⟨cl.toNat, by omega⟩
  have hi : i < 8 := by omega
  obtain ⟨p, hp⟩ : ∃ p, ps[i]? = some p := ⟨_, List.getElem?_eq_getElem (by omega)⟩
  have ep : atP ps (i : Int) = p := by rw [atP, if_pos (by omega)]; simp [List.getD, hp]
  rw [ep] at ho
  obtain ⟨hg, _⟩ := h.xplace hp
  obtain ⟨c0, _⟩ := xcells h8 hg hp
  rw [ho] at c0
  have hgl : g < w.heap.size := (Array.getElem?_eq_some_iff.1 hg).1
  have hI : (i : Int) < 8 := by omega
  clear h HA1 ho hg hp ep h7
  go_enter Try.func34, Try.ntmps34
  go_wp2
  obtain ⟨f1, f2⟩ := FIN.out _ rfl
  exact bodyPost_ret (v := .tuple #[rowV 0 0 0 0 (.slice none 0 0), .bool false]) (res34 (b := w.heap.size) rfl rfl f1) rfl ⟨rfl, f2⟩

set_option maxRecDepth 1000000 in
theorem xlast_on {g i : Nat} {ps : List Pl} {p : Pl} {cs : List Comp} {w : World} (h8 : ps.length = 8) (h : All (xrollL g ps ++ cs) w) (hp : ps[i]? = some p) (hi : i < 8) (hon : p.on = true) (hl : p.l.length ≤ 1000) : Calls Try.prog 34 #[.pointer (some ⟨g, 0, none⟩), .int .i64 (i : Int)] w fun e w' => ∃ ao c', e = .returned (.tuple #[rowV p.n p.a p.c p.k (.slice ao p.l.length c'), .bool true]) ∧ All (ownC 9 (.slice ao p.l.length c') (cellsT p.l) :: (xrollL g ps ++ cs)) w' := by
  obtain ⟨hg, hT⟩ := h.xplace hp
  obtain ⟨c0, c1, c2, c3, c4, c5⟩ := xcells h8 hg hp
  obtain ⟨ao, cp, e5⟩ := hT.form
  have HT := hid hT
  rw [hon] at c0
  have hgl : g < w.heap.size := (Array.getElem?_eq_some_iff.1 hg).1
  have hI : (i : Int) < 8 := by omega
  have e0 : decide ((i : Int) < 0) = false := by rw [decide_eq_false_iff_not]; omega
  have e7 : decide (7 < (i : Int)) = false := by rw [decide_eq_false_iff_not]; omega
  rw [e5] at c5
  have HA1 := hid (h.addBlk [.int .i64 0, .int .i64 0, .int .i64 0, .int .i64 0, .slice none 0 0] 39)
  clear h hg hT hp hon
  go_enter Try.func34, Try.ntmps34
  go_wp2_with fail
  refine (xcopied_any HA1.out p.n p.a p.c p.k (e5 ▸ HT.out.alloc _) hl).mono ?_
  rintro e w1 ⟨ao', c', rfl, A2⟩
  have err : w1.heap[w.heap.size]? = some (.cells #[.int .i64 0, .int .i64 0, .int .i64 0, .int .i64 0, .slice none 0 0] 39 (0, 0)) := A2.tail.1.2.1
  have r0 : w1.cell? ⟨w.heap.size, 0, none⟩ = some (.int .i64 0) := by rw [cell_at err]; rfl
  have r1 : w1.cell? ⟨w.heap.size, 1, none⟩ = some (.int .i64 0) := by rw [cell_at err]; rfl
  have r2 : w1.cell? ⟨w.heap.size, 2, none⟩ = some (.int .i64 0) := by rw [cell_at err]; rfl
  have r3 : w1.cell? ⟨w.heap.size, 3, none⟩ = some (.int .i64 0) := by rw [cell_at err]; rfl
  have r4 : w1.cell? ⟨w.heap.size, 4, none⟩ = some (.slice none 0 0) := by rw [cell_at err]; rfl
  have fr0 : w1.frozen? ⟨w.heap.size, 0, none⟩ = false := free_at err 0
  have fr1 : w1.frozen? ⟨w.heap.size, 1, none⟩ = false := free_at err 1
  have fr2 : w1.frozen? ⟨w.heap.size, 2, none⟩ = false := free_at err 2
  have fr3 : w1.frozen? ⟨w.heap.size, 3, none⟩ = false := free_at err 3
  have fr4 : w1.frozen? ⟨w.heap.size, 4, none⟩ = false := free_at err 4
  clear err
  have HA2 := hid A2
  clear A2 HA1 HT
  go_wp2
  have A3 := ((((HA2.out.swap.setBlk 0 (.int .i64 p.n)).setBlk 1 (.int .i64 p.a)).setBlk 2 (.int .i64 p.c)).setBlk 3 (.int .i64 p.k)).setBlk 4 (.slice ao' p.l.length c')
  refine bodyPost_ret (v := .tuple #[rowV p.n p.a p.c p.k (.slice ao' p.l.length c'), .bool true]) (res34 (b := w.heap.size) rfl rfl A3.1.2.1) rfl ?_
  exact ⟨ao', c', rfl, A3.tail⟩

theorem xlast_any {g : Nat} {ps : List Pl} {cs : List Comp} {w : World} (h : All (xrollL g ps ++ cs) w) (hok : OkP ps) (c : Int) : Calls Try.prog 34 #[.pointer (some ⟨g, 0, none⟩), .int .i64 c] w fun e w' => ∃ so sc, e = .returned (.tuple #[rowV (atP ps c).n (atP ps c).a (atP ps c).c (atP ps c).k (.slice so (atP ps c).l.length sc), .bool (atP ps c).on]) ∧ All (ownC 9 (.slice so (atP ps c).l.length sc) (cellsT (atP ps c).l) :: (xrollL g ps ++ cs)) w' := by
  cases ho : (atP ps c).on with
  | false =>
    obtain ⟨e1, e2, e3, e4, e5⟩ := (hok.at c).off ho
    have := xlast_off hok.1 h ho
    rw [e1, e2, e3, e4, e5]
    exact this.mono fun e w' ⟨h1, h2⟩ => ⟨none, 0, h1, h2.addNil⟩
  | true =>
    have hm := (hok.at c).may ho
    rcases at_cases hok.1 c with ⟨i, hc, hi, hp⟩ | ⟨hz, _⟩
    · have := xlast_on hok.1 h hp hi ho (by have := may_parts hm; omega)
      rw [← hc] at this
      exact this
    · rw [hz] at ho; cases ho

theorem xtell_off {g : Nat} {cl : Int} {ps : List Pl} {cs : List Comp} {w : World} (h8 : ps.length = 8) (h : All (xrollL g ps ++ cs) w) (ho : (atP ps cl).on = false) : Calls Try.prog 35 #[.pointer (some ⟨g, 0, none⟩), .int .i64 cl] w fun e w' => e = .returned (.slice none 0 0) ∧ All (xrollL g ps ++ cs) w' := by
  have HA := hid h
  by_cases h0 : cl < 0
  · have e0 : decide (cl < 0) = true := by simpa using h0
    clear h ho
    go_enter Try.func35, Try.ntmps35
    go_wp2
    go_ret
    exact ⟨rfl, HA.out⟩
  have e0 : decide (cl < 0) = false := by simpa using h0
  by_cases h7 : 7 < cl
  · have e7 : decide (7 < cl) = true := by simpa using h7
    clear h ho
    go_enter Try.func35, Try.ntmps35
    go_wp2
    go_ret
    exact ⟨rfl, HA.out⟩
  have e7 : decide (7 < cl) = false := by simpa using h7
  obtain ⟨i, rfl⟩ : ∃ i : Nat, cl = i := ⟨cl.toNat, by omega⟩
  have hi : i < 8 := by omega
  obtain ⟨p, hp⟩ : ∃ p, ps[i]? = some p := ⟨_, List.getElem?_eq_getElem (by omega)⟩
  have ep : atP ps (i : Int) = p := by rw [atP, if_pos (by omega)]; simp [List.getD, hp]
  rw [ep] at ho
  obtain ⟨hg, _⟩ := h.xplace hp
  obtain ⟨c0, _⟩ := xcells h8 hg hp
  rw [ho] at c0
  have hI : (i : Int) < 8 := by omega
  clear h ho hg hp ep h7
  go_enter Try.func35, Try.ntmps35
  go_wp2
  go_ret
  exact ⟨rfl, HA.out⟩

set_option maxHeartbeats 1600000 in
set_option maxRecDepth 1000000 in
theorem xtell_on {g i : Nat} {ps : List Pl} {p : Pl} {cs : List Comp} {w : World} (h8 : ps.length = 8) (h : All (xrollL g ps ++ cs) w) (hp : ps[i]? = some p) (hi : i < 8) (hon : p.on = true) (hm : may p.n p.a p.c p.k p.l = true) : Calls Try.prog 35 #[.pointer (some ⟨g, 0, none⟩), .int .i64 (i : Int)] w fun e w' => ∃ so sc, e = .returned (.slice so (rowB p.n p.a p.c p.k p.l).length sc) ∧ All (ownC 5 (.slice so (rowB p.n p.a p.c p.k p.l).length sc) (cellsB (rowB p.n p.a p.c p.k p.l)) :: (xrollL g ps ++ cs)) w' := by
  have HP := hid hp
  have HM := hid hm
  have H8 := hid h8
  have CE : Hid (∀ W cs', All (xrollL g ps ++ cs') W → W.cell? ⟨g, 40 + i, none⟩ = some (.bool true) ∧ W.cell? ⟨g, i * 5, none⟩ = some (.int .i64 p.n) ∧ W.cell? ⟨g, i * 5 + 1, none⟩ = some (.int .i64 p.a) ∧ W.cell? ⟨g, i * 5 + 2, none⟩ = some (.int .i64 p.c) ∧ W.cell? ⟨g, i * 5 + 3, none⟩ = some (.int .i64 p.k) ∧ W.cell? ⟨g, i * 5 + 4, none⟩ = some p.s) := hid (fun W cs' hW => by
    have := xcells H8.out (hW.xplace HP.out).1 HP.out
    rw [hon] at this
    exact this)
  obtain ⟨ao, cp, e5⟩ := (h.xplace hp).2.form
  have HT : Hid (∀ w' , All (xrollL g ps ++ cs) w' → Txts w' (.slice ao p.l.length cp) p.l) := hid (fun w' hw' => e5 ▸ (hw'.xplace HP.out).2)
  rw [e5] at CE
  have HA := hid h
  obtain ⟨c0, c1, c2, c3, c4, c5⟩ := CE.out w cs h
  have hI : (i : Int) < 8 := by omega
  have e0 : decide ((i : Int) < 0) = false := by rw [decide_eq_false_iff_not]; omega
  have e7 : decide (7 < (i : Int)) = false := by rw [decide_eq_false_iff_not]; omega
  clear h hp hon hm h8
  go_enter Try.func35, Try.ntmps35
  go_wp2_with fail
  refine (xnewW HA.out).mono ?_
  rintro e w2 ⟨b, rfl, A⟩
  have A := hid A
  clear HA c0 c1 c2 c3 c4 c5
  obtain ⟨c0, c1, c2, c3, c4, c5⟩ := CE.out w2 cs A.out.tail
  go_wp2_with fail
  refine (xnumW A.out p.n (by have := may_parts HM.out; omega) (by simp [lenS])).mono ?_
  rintro e w3 ⟨rfl, v3, A3⟩
  have A := hid A3
  clear A3 c0 c1 c2 c3 c4 c5
  obtain ⟨c0, c1, c2, c3, c4, c5⟩ := CE.out w3 cs A.out.tail
  go_wp2_with fail
  refine (xnumW A.out p.a (by have := may_parts HM.out; omega) (by have := lenS_num (some []) p.n; simp [lenS] at this ⊢; omega)).mono ?_
  rintro e w4 ⟨rfl, v4, A4⟩
  have A := hid A4
  clear A4 c0 c1 c2 c3 c4 c5
  obtain ⟨c0, c1, c2, c3, c4, c5⟩ := CE.out w4 cs A.out.tail
  go_wp2_with fail
  refine (rputR_any A.out (fun w' hw' => HT.out w' hw') p.c p.k (by have := may_parts HM.out; omega) (by have := may_parts HM.out; omega) ?_ (by have := may_parts HM.out; omega)).mono ?_
  · have h1 := lenS_num (some []) p.n
    have h2 := lenS_num (numS (some []) p.n) p.a
    have h3 := may_parts HM.out
    have h4 := bulk_short h3.2.2.2.2.2.2.2.2.2.2.1
    simp only [lenS, List.length_nil] at h1 h2 ⊢
    omega
  rw [may_put HM.out]
  rintro e w5 ⟨rfl, v5, A5⟩
  have A := hid A5
  clear A5 c0 c1 c2 c3 c4 c5
  go_wp2_with fail
  refine (xdoneW A.out (by have := rowB_len HM.out; omega)).mono ?_
  rintro e w6 ⟨so, sc, rfl, A6⟩
  have A := hid A6
  clear A6
  generalize hR : rowB p.n p.a p.c p.k p.l = R at A ⊢
  generalize hL : R.length = L at A ⊢
  have HR := hid hR
  have HL := hid hL
  clear hR hL
  go_wp2
  go_ret
  obtain rfl := HL.out
  obtain rfl := HR.out
  refine ⟨so, sc, rfl, A.out.sublist (.cons_cons _ (.cons _ (.refl _)))⟩

theorem xtell_any {g : Nat} {ps : List Pl} {cs : List Comp} {w : World} (h : All (xrollL g ps ++ cs) w) (hok : OkP ps) (c : Int) : Calls Try.prog 35 #[.pointer (some ⟨g, 0, none⟩), .int .i64 c] w fun e w' => ∃ so sc, e = .returned (.slice so (atP ps c).bytes.length sc) ∧ All (ownC 5 (.slice so (atP ps c).bytes.length sc) (cellsB (atP ps c).bytes) :: (xrollL g ps ++ cs)) w' := by
  cases ho : (atP ps c).on with
  | false =>
    have eb : (atP ps c).bytes = [] := by simp [Pl.bytes, ho]
    rw [eb]
    exact (xtell_off hok.1 h ho).mono fun e w' ⟨h1, h2⟩ => ⟨none, 0, h1, h2.addNil⟩
  | true =>
    have hm := (hok.at c).may ho
    have eb : (atP ps c).bytes = rowB (atP ps c).n (atP ps c).a (atP ps c).c (atP ps c).k (atP ps c).l := by simp [Pl.bytes, ho]
    rw [eb]
    rcases at_cases hok.1 c with ⟨i, hc, hi, hp⟩ | ⟨hz, _⟩
    · have := xtell_on hok.1 h hp hi ho hm
      rw [← hc] at this
      exact this
    · rw [hz] at ho; cases ho
end Go.Proofs.Ytagdpfghooogfaa

namespace Go.Proofs.Ytagdpfghooogfaa
open Go.RowKit
set_option linter.unusedVariables false

theorem Try.info35 : (Try.prog.info? 35).map (fun i => (i.zero, i.size, i.bytes)) = some (some (.slice none 0 0), 1, 24) := by kernel_rfl
theorem Try.info40' : (Try.prog.info? 40).map (fun i => (i.zero, i.size, i.bytes)) = some (some (.slice none 0 0), 1, 24) := by kernel_rfl

/-- The program's roll and the document's, side by side. -/
structure Twin (ps qs : List Pl) : Prop where
  okp : OkP ps
  okq : OkP qs
  same : ∀ c, (atP qs c).on = (atP ps c).on ∧ (atP qs c).n = (atP ps c).n ∧ (atP qs c).a = (atP ps c).a ∧ (atP qs c).c = (atP ps c).c ∧ (atP qs c).k = (atP ps c).k ∧ (atP qs c).l = (atP ps c).l

theorem Twin.bytes {ps qs : List Pl} (h : Twin ps qs) (c : Int) : (atP qs c).bytes = (atP ps c).bytes := by
  obtain ⟨h1, h2, h3, h4, h5, h6⟩ := h.same c
  unfold Pl.bytes
  rw [h1, h2, h3, h4, h5, h6]

/-- Pieces in another order. -/
theorem perm_by (n : Nat) (ls : List (List Comp)) (σ : List Nat) (hn : ls.length = n) (h : σ.Perm (List.range n)) : ls.flatten.Perm (σ.map fun i => ls.getD i []).flatten := by
  subst hn
  have h1 : ls = (List.range ls.length).map fun i => ls.getD i [] := by
    refine List.ext_getElem (by simp) fun i h1 h2 => ?_
    simp [List.getD, h1]
  have h2 := (h.map fun i => ls.getD i []).flatten
  rw [← h1] at h2
  exact h2.symm

theorem perm_two (X R1 R2 cs : List Comp) : (X ++ (R1 ++ (R2 ++ cs))).Perm (R2 ++ (X ++ (R1 ++ cs))) := by
  have h := List.perm_append_comm_assoc (X ++ R1) R2 cs
  simpa [List.append_assoc] using h

/-- A book: its block, and the rows of the lists that were handed out. -/
def bookC (b : Nat) (vi : Value) (is : List Value) (vt : Value) (ts : List Value) : List Comp := [blkC b [vi, vt] 34, ownC 35 vi is, ownC 40 vt ts]

set_option maxHeartbeats 3200000 in
set_option maxRecDepth 1000000 in
/-- Book.bytes. -/
theorem kbytes_any {b g h : Nat} {vi vt : Value} {is ts : List Value} {ps qs : List Pl} {cs : List Comp} {w : World} (tw : Twin ps qs) (hA : All (rollL g ps ++ (xrollL h qs ++ (bookC b vi is vt ts ++ cs))) w) (hts : ts.length ≤ 100000000) (cl : Int) :
    Calls Try.prog 16 #[.pointer (some ⟨b, 0, none⟩), .pointer (some ⟨g, 0, none⟩), .pointer (some ⟨h, 0, none⟩), .int .i64 cl] w fun e w' => e = .returned (.bool true) ∧ ∃ (vt' x1 : Value) (l1 : List UInt8) (y1 : Value) (l2 : List UInt8), (l1.length ≤ 1000 ∧ l2.length ≤ 1000) ∧ Hid (All (rollL g ps ++ (xrollL h qs ++ (bookC b vi is vt' (ts ++ [x1, y1]) ++ (bpart (x1, l1) :: bpart (y1, l2) :: cs)))) w') := by
  have HT := hid tw
  obtain ⟨B, hB⟩ : ∃ B, Hid (B = (atP ps cl).bytes) := ⟨_, hid rfl⟩
  obtain ⟨nB, hnB⟩ : ∃ nB, Hid (nB = B.length) := ⟨_, hid rfl⟩
  have hlB : Hid (B.length ≤ 1000) := hid (by
    rw [hB.out]
    unfold Pl.bytes
    split
    · rename_i ho
      have := (rowB_len ((tw.okp.at cl).may ho)).2
      omega
    · simp)
  obtain ⟨i0, hi, hz0, hz1, hz2⟩ := info_parts Try.info40'
  have C1 := hid (tell_any hA tw.okp cl)
  rw [← hB.out, ← hnB.out] at C1
  obtain ⟨D, hD⟩ : ∃ D, Hid (D = bookC b vi is vt ts ++ cs) := ⟨_, hid rfl⟩
  rw [← hD.out] at C1
  clear hA tw
  go_enter Try.func16, Try.ntmps16
  go_wp2_with fail
  refine C1.out.mono ?_
  rintro e w1 ⟨so1, sc1, rfl, A1⟩
  have A1 := hid (A1.perm (List.perm_append_comm_assoc [_] (rollL g ps) (xrollL h qs ++ D)))
  have C2 := hid (tell_any A1.out HT.out.okp cl)
  rw [← hB.out, ← hnB.out] at C2
  clear C1
  go_wp2_with fail
  refine C2.out.mono ?_
  rintro e w2 ⟨so2, sc2, rfl, A2⟩
  have A2 := hid (A2.perm (show List.Perm (ownC 5 (.slice so2 nB sc2) (cellsB B) :: (rollL g ps ++ ([ownC 5 (.slice so1 nB sc1) (cellsB B)] ++ (xrollL h qs ++ D)))) (xrollL h qs ++ ((ownC 5 (.slice so2 nB sc2) (cellsB B) :: (rollL g ps ++ [ownC 5 (.slice so1 nB sc1) (cellsB B)])) ++ D)) from by
    have h1 := List.perm_append_comm_assoc (ownC 5 (.slice so2 nB sc2) (cellsB B) :: (rollL g ps ++ [ownC 5 (.slice so1 nB sc1) (cellsB B)])) (xrollL h qs) D
    simpa [List.append_assoc] using h1))
  have C3 := hid (xtell_any A2.out HT.out.okq cl)
  rw [HT.out.bytes cl, ← hB.out, ← hnB.out] at C3
  clear C2 A1
  go_wp2_with fail
  refine C3.out.mono ?_
  rintro e w3 ⟨so3, sc3, rfl, A3⟩
  have A3 := hid A3
  have RD : Hid (∀ (W : World) (ds : List Comp) (so : Option Addr) (sc : Nat), All ds W → ownC 5 (.slice so nB sc) (cellsB B) ∈ ds → Reads W (.slice so nB sc) B) := hid (fun W ds so sc hW hm => Reads.of_owns (base := 0) (by
    have hh : W.ownsRow 0 5 1 (.slice so nB sc) (cellsB B).length (cellsB B) := (hW.mem hm).2.1
    rw [cellsB_length] at hh; exact hh))
  have C4 := same_any (RD.out w3 _ so1 sc1 A3.out (by simp)) (RD.out w3 _ so3 sc3 A3.out (by simp))
  have C5 := same_any (RD.out w3 _ so2 sc2 A3.out (by simp)) (RD.out w3 _ so3 sc3 A3.out (by simp))
  rw [show decide (B = B) = true by simp] at C4 C5
  have C4 := hid C4
  have C5 := hid C5
  clear C3 A2 RD
  go_wp2_with fail
  refine C4.out.mono ?_
  rintro e w4 ⟨rfl, rfl⟩
  go_wp2_with fail
  refine C5.out.mono ?_
  rintro e w5 ⟨rfl, rfl⟩
  clear C4 C5
  have A6 : All (ownC 40 vt ts :: blkC b [vi, vt] 34 :: ownC 35 vi is :: (rollL g ps ++ (xrollL h qs ++ (bpart (.slice so1 nB sc1, B) :: bpart (.slice so2 nB sc2, B) :: cs)))) w5 := by
    have A5 := A3.out.tail
    rw [hD.out] at A5
    refine A5.perm ?_
    have := perm_by 8 [xrollL h qs, [ownC 5 (.slice so2 nB sc2) (cellsB B)], rollL g ps, [ownC 5 (.slice so1 nB sc1) (cellsB B)], [blkC b [vi, vt] 34], [ownC 35 vi is], [ownC 40 vt ts], cs] [6, 4, 5, 2, 0, 3, 1, 7] rfl (by decide)
    simpa [bookC, bpart, List.getD] using this
  obtain ⟨tq, tc, rfl⟩ := owns_form (show w5.ownsRow 0 40 1 vt ts.length ts from A6.1.2.1)
  have A7 := hid (A6.alloc (.cells #[.slice so1 nB sc1, .slice so2 nB sc2] 40))
  have erx : w5.heap[b]? = some (.cells #[vi, .slice tq ts.length tc] 34 (0, 0)) := A6.tail.1.2.1
  have x0 : w5.cell? ⟨b, 0, none⟩ = some (vi) := by rw [cell_at erx]; rfl
  have x1 : w5.cell? ⟨b, 1, none⟩ = some (.slice tq ts.length tc) := by rw [cell_at erx]; rfl
  have fx1 : w5.frozen? ⟨b, 1, none⟩ = false := free_at erx 1
  clear erx
  have hbl : b < w5.heap.size := World.block_lt_of_cell? w5 _ x0
  have hrow : (w5.alloc (.cells #[.slice so1 nB sc1, .slice so2 nB sc2] 40)).ownsRow 0 40 1 (.slice tq ts.length tc) ts.length ts := A7.out.1.2.1
  have hnews : ∀ j u, [.slice so1 nB sc1, .slice so2 nB sc2][j]? = some u → (w5.alloc (.cells #[.slice so1 nB sc1, .slice so2 nB sc2] 40)).cell? ((⟨w5.heap.size, 0, none⟩ : Addr).add j) = some u := by
    intro j u hu
    rw [Addr.add_lit, cell_at (heap_alloc_new w5 _)]
    match j with
    | 0 => simpa using hu
    | 1 => simpa using hu
    | j + 2 => simp at hu
  have hone : ∀ u ∈ [Value.slice so1 nB sc1, Value.slice so2 nB sc2], u.oneCell' = true := by
    intro u hu
    simp only [List.mem_cons, List.not_mem_nil, or_false] at hu
    rcases hu with rfl | rfl <;> rfl
  obtain ⟨nt, hnt⟩ : ∃ nt, Hid (nt = ts.length) := ⟨_, hid rfl⟩
  have hnt5 : nt ≤ 100000000 := by rw [hnt.out]; exact hts
  rw [← hnt.out] at A7 x1 hrow
  clear A6 A3 hts hD
  go_wp2_with (at_builtin; refine wpList_append_own_at _ rfl (.tmp 33) (.tmp 36) 32 rfl 0 40 i0 (.slice none 0 0) 1 24 Try.underlying32 hi hz0 hz1 hz2 rfl (by decide) _ _ _ rfl hrow ⟨w5.heap.size, 0, none⟩ 2 2 [.slice so1 nB sc1, .slice so2 nB sc2] rfl rfl hnews hone (by unfold maxLen; omega) (by omega) (by simp) ?_)
  intro v' w6 hown hgr _ hat
  have A8 := A7.out.ownGrow (vs' := ts ++ [.slice so1 nB sc1, .slice so2 nB sc2]) (base := 0) (v' := v') (by
    rw [List.length_append, ← hnt.out]
    exact hown) hgr (by simpa using hat)
  obtain ⟨tq', tc', rfl⟩ := owns_form hown
  have A8 := hid A8
  clear hown hgr hat A7 hrow hnews hone x0 x1 fx1
  have erx : w6.heap[b]? = some (.cells #[vi, .slice tq nt tc] 34 (0, 0)) := A8.out.tail.1.2.1
  have x0 : w6.cell? ⟨b, 0, none⟩ = some (vi) := by rw [cell_at erx]; rfl
  have x1 : w6.cell? ⟨b, 1, none⟩ = some (.slice tq nt tc) := by rw [cell_at erx]; rfl
  have fx1 : w6.frozen? ⟨b, 1, none⟩ = false := free_at erx 1
  clear erx
  have A9 := hid (A8.out.swap.setBlk 1 (.slice tq' (nt + 2) tc'))
  clear A8
  go_wp2
  go_ret
  refine ⟨rfl, .slice tq' (nt + 2) tc', .slice so1 nB sc1, B, .slice so2 nB sc2, B, ⟨hlB.out, hlB.out⟩, hid ?_⟩
  have := perm_by 8 [[blkC b [vi, .slice tq' (nt + 2) tc'] 34], [ownC 40 (.slice tq' (nt + 2) tc') (ts ++ [.slice so1 nB sc1, .slice so2 nB sc2])], [ownC 35 vi is], rollL g ps, xrollL h qs, [bpart (.slice so1 nB sc1, B)], [bpart (.slice so2 nB sc2, B)], cs] [3, 4, 0, 2, 1, 5, 6, 7] rfl (by decide)
  refine A9.out.perm ?_
  simpa [bookC, List.getD] using this
end Go.Proofs.Ytagdpfghooogfaa
