import Derived.Test.YtblojlaifnmimaaGreatDoorJ24
import Derived.Test.YtblojlaifnmimaaGreatDoorJ18
import Derived.Test.YtblojlaifnmimaaGreatDoorD13r
namespace Go.Proofs.YtblojlaifnmimaaGreatDoor
open Go.RowKit
set_option linter.unusedVariables false

set_option maxHeartbeats 3200000 in
set_option maxRecDepth 1000000 in
/-- The document's head. -/
theorem rhead_any {v : Value} {l : Ws} {cs : List Comp} {w : World} (A : All cs w) (hR : ∀ W, All cs W → Rt W v l) (hs : ∀ x ∈ l, x.length ≤ 140737488355328) :
    Calls Tryz.prog 21 #[v] w (HPost (headR l) cs) := by
  obtain ⟨ao, c, rfl⟩ := (hR w A).form
  have A0 := hid (A.addBlk (cI zC) 24)
  have IZ : Hid ((Tryz.prog.info? 24).map (·.size) = some (cI zC).toArray.size) := hid Tryz.i24
  have OZ := hid (cI_one zC)
  have ez : (cI zC).toArray = #[.int .i64 0, .int .i64 0, .int .i64 0, .int .i64 0, .int .i64 0, .int .i64 0, .int .i64 0, .int .i64 0, .int .i64 0, .int .i64 0] := rfl
  by_cases hb : l.length = 11 ∧ l.getD 0 [] = fleetW
  · obtain ⟨h11, hf⟩ := hb
    have eH : headR l = numsW (l.drop 1) := by unfold headR; rw [if_pos ⟨h11, hf⟩]
    rw [eH]
    obtain ⟨g, o, hao, hgl, h1⟩ := (hR _ A0.out.tail).at (j := 0) (by omega)
    subst hao
    rw [Nat.add_zero] at h1
    have ne : ((⟨(l.getD 0 []).toArray⟩ : ByteArray).toList == ([102, 108, 101, 101, 116] : List UInt8)) = true := by
      rw [fleet_eq]; exact decide_eq_true hf
    have CE : Hid (∀ W i, All cs W → i < 10 → W.cell? ⟨g, o + (i + 1), none⟩ = some (.string ⟨(l.getD (1 + i) []).toArray⟩)) := hid (fun W i h hi => by
      obtain ⟨g', o', e, _, h2⟩ := (hR W h).at (j := 1 + i) (by omega)
      simp only [Option.some.injEq, Addr.mk.injEq, and_true] at e
      rw [e.1, e.2, Nat.add_comm i 1]; exact h2)
    have NU : Hid (∀ W i, i < 10 → Calls Tryz.prog 40 #[.string ⟨(l.getD (1 + i) []).toArray⟩] W fun e w' => e = .returned (.tuple #[.int .i64 (((numW (l.getD (1 + i) [])).getD 0 : Nat) : Int), .bool (numW (l.getD (1 + i) [])).isSome]) ∧ w' = W) := hid (fun W i hi => rNumber7 (by
      have hm : l.getD (1 + i) [] ∈ l := by
        have hlt : 1 + i < l.length := by omega
        rw [List.getD, List.getElem?_eq_getElem hlt]
        exact List.getElem_mem hlt
      exact hs _ hm))
    have NA : Hid (∀ i, i < 10 → numsW (l.drop (1 + i)) = match numW (l.getD (1 + i) []) with
      | none => none
      | some n => (numsW (l.drop (1 + i + 1))).map fun r => (n : Int) :: r) := hid (fun i hi => numsW_at (by omega))
    have NE : Hid (numsW (l.drop 11) = some []) := hid (by rw [List.drop_of_length_le (by omega)]; rfl)
    have A1 := hid (A0.out.addBlk (cI zC) 78)
    have esz : (w.alloc (.cells (cI zC).toArray 24)).heap.size = w.heap.size + 1 := by simp
    rw [esz, ez] at A1
    rw [h11]
    obtain ⟨G, hG⟩ : ∃ G, G = numsW (l.drop 1) := ⟨_, rfl⟩
    rw [← hG]
    have ND : Hid (G = (numsW (l.drop (1 + 0))).map fun r => [] ++ r) := hid (by rw [hG]; cases numsW (l.drop 1) <;> rfl)
    clear hG
    clear eH hR hs A h11 hf
    generalize ByteArray.mk (l.getD 0 []).toArray = X at *
    rw [ez] at h1 hgl
    go_enter Tryz.func21, Tryz.ntmps21
    go_wp2
    have A2 := hid A1.out
    rw [← cfz_nil] at A2
    clear A0 A1 h1 esz hgl
    generalize w.heap.size + 1 = C0 at *
    generalize w.heap.size = R at *
    go_loopw [5, 6, 7] (fun iv u6 u7 wr => ∃ (i : Nat) (ns : List Int), i ≤ 10 ∧ ns.length = i ∧ iv = .int .i64 (i : Int) ∧ Hid (G = (numsW (l.drop (1 + i))).map fun r => ns ++ r) ∧ Hid (All (blkC C0 (cfz ns) 78 :: blkC R (cI zC) 24 :: cs) wr)) (fun iv _ _ _ => 10 - (intOf iv).toNat)
    case atStart => exact ⟨0, [], by omega, rfl, rfl, ND, A2⟩
    case round =>
      obtain ⟨i, ns, hi, hni, rfl, hGo, HA⟩ := hrel
      clear A2 ND
      have HN := hid hni
      clear hni
      by_cases hlt : i < 10
      · have hlt' : (i : Int) < 10 := by omega
        have ce := CE.out wr i HA.out.tail.tail hlt
        have Q := hid (NU.out wr i hlt)
        have na := hid (NA.out i hlt)
        have wp1 : IntKind.i64.wrap ((i : Int) + 1) = (i : Int) + 1 := by rw [IntKind.wrap_i64]; omega
        have in1 : (i : Int) + 1 < 11 := by omega
        generalize hx : l.getD (1 + i) [] = x at *
        clear hx NU NA CE NE
        cases hn : numW x with
        | none =>
          rw [hn] at Q na
          simp only [Option.getD_none, Option.isSome_none] at Q
          have fin : Hid (G = none) := hid (by rw [hGo.out, na.out]; rfl)
          have K2 := hid HA.out.swap
          have H2 := hid K2.out.1.2.1
          have K3 := hid (K2.out.setRow (vs' := cI zC))
          clear hGo na hn HA
          generalize ByteArray.mk x.toArray = Y at *
          go_wp2_with (first | (go_at_call 40; refine Q.out.mono ?_; rintro e w2 ⟨rfl, rfl⟩) | (refine wpList_build rfl 24 _ rfl (by kernel_rfl) ?_) | (refine wpList_store_row rfl 24 _ _ rfl R (cI zC).toArray rfl (by kernel_rfl) 24 _ H2.out IZ.out rfl OZ.out ?_))
          refine ret2 rfl rfl rfl (ld24 K3.out.1.2.1 rfl) rfl ?_
          exact ⟨by rw [fin.out]; rfl, K3.out.tail.tail⟩
        | some n =>
          rw [hn] at Q na
          simp only [Option.getD_some, Option.isSome_some] at Q
          have nx : Hid (G = (numsW (l.drop (1 + (i + 1)))).map fun r => (ns ++ [(n : Int)]) ++ r) := hid (by
            rw [hGo.out, na.out]
            show (Option.map _ (numsW (l.drop (1 + i + 1)))).map _ = _
            rw [Nat.add_assoc 1 i 1]
            cases numsW (l.drop (1 + (i + 1))) with
            | none => rfl
            | some r => simp)
          have hnl : ns.length < 10 := by rw [HN.out]; exact hlt
          have ca := cfz_at hnl
          have st := cfz_set hnl (n : Int)
          rw [HN.out] at ca st
          have CA := hid ca
          have ST := hid st
          clear hGo na hn ca st hnl
          obtain ⟨y5, f5, _⟩ := blk_at HA.out (.head _) CA.out
          generalize ByteArray.mk x.toArray = Y at *
          have K3 := hid (HA.out.setBlk i (.int .i64 (n : Int)))
          rw [ST.out] at K3
          go_wp2_with (go_at_call 40; refine Q.out.mono ?_; rintro e w2 ⟨rfl, rfl⟩)
          go_roundw
          case rel => exact ⟨i + 1, ns ++ [(n : Int)], by omega, by rw [List.length_append, HN.out]; rfl, by go_num, nx, K3⟩
          case measure => simp [intOf]; omega
      · have hlt' : ¬ (i : Int) < 10 := by omega
        have e10 : i = 10 := by omega
        have hn10 : ns.length = 10 := by rw [HN.out]; exact e10
        have fin : Hid (G = some ns) := hid (by rw [hGo.out, e10, NE.out]; simp)
        have K0 := hid HA.out
        rw [cfz_full hn10] at K0
        have K2 := hid K0.out.swap
        have H2 := hid K2.out.1.2.1
        have K3 := hid (K2.out.setRow (vs' := cI ns))
        have IN : Hid ((Tryz.prog.info? 24).map (·.size) = some (cI ns).toArray.size) := hid (by rw [Tryz.i24, List.size_toArray, cI_len, hn10])
        have ON := hid (cI_one ns)
        have ZN : Hid ((cI zC).toArray.size = (cI ns).toArray.size) := hid (by rw [List.size_toArray, List.size_toArray, cI_len, cI_len, hn10]; rfl)
        have LN : Hid ((cI ns).toArray.size = 10) := hid (by rw [List.size_toArray, cI_len, hn10])
        obtain ⟨b0, b1, b2, b3, b4, b5, b6, b7, b8, b9, rfl⟩ := ten hn10
        have q0 := (blk_at (j := 0) K0.out (.head _) (u := .int .i64 b0) rfl).1
        have q1 := (blk_at (j := 1) K0.out (.head _) (u := .int .i64 b1) rfl).1
        have q2 := (blk_at (j := 2) K0.out (.head _) (u := .int .i64 b2) rfl).1
        have q3 := (blk_at (j := 3) K0.out (.head _) (u := .int .i64 b3) rfl).1
        have q4 := (blk_at (j := 4) K0.out (.head _) (u := .int .i64 b4) rfl).1
        have q5 := (blk_at (j := 5) K0.out (.head _) (u := .int .i64 b5) rfl).1
        have q6 := (blk_at (j := 6) K0.out (.head _) (u := .int .i64 b6) rfl).1
        have q7 := (blk_at (j := 7) K0.out (.head _) (u := .int .i64 b7) rfl).1
        have q8 := (blk_at (j := 8) K0.out (.head _) (u := .int .i64 b8) rfl).1
        have q9 := (blk_at (j := 9) K0.out (.head _) (u := .int .i64 b9) rfl).1
        clear e10 hn10 HA NE NA CE NU hGo HN K0
        go_wp2_with (first | (refine wpList_build rfl 24 _ rfl (by kernel_rfl) ?_) | (refine wpList_store_row rfl 24 _ _ rfl R (cI [b0, b1, b2, b3, b4, b5, b6, b7, b8, b9]).toArray rfl (by kernel_rfl) 24 _ H2.out IN.out ZN.out ON.out ?_))
        refine ret2 rfl rfl rfl (ld24 K3.out.1.2.1 LN.out) rfl ?_
        exact ⟨by rw [fin.out]; rfl, K3.out.tail.tail⟩
  · have eH : headR l = none := by unfold headR; rw [if_neg hb]
    rw [eH]
    have fin : ∀ W, All (blkC w.heap.size (cI zC) 24 :: cs) W → HPost none cs (.returned (.tuple #[.agg (cI zC).toArray, .bool false])) W := fun W h => ⟨rfl, h.tail⟩
    have H1 := hid A0.out.1.2.1
    have A4 := hid (A0.out.setRow (vs' := cI zC))
    by_cases h11 : l.length = 11
    · have hf : l.getD 0 [] ≠ fleetW := fun e => hb ⟨h11, e⟩
      obtain ⟨g, o, hao, hgl, h1⟩ := (hR _ A0.out.tail).at (j := 0) (by omega)
      subst hao
      rw [Nat.add_zero] at h1
      have ne : ((⟨(l.getD 0 []).toArray⟩ : ByteArray).toList == ([102, 108, 101, 101, 116] : List UInt8)) = false := by
        rw [fleet_eq]; exact decide_eq_false hf
      have hn11 : ((l.length : Int) != 11) = false := by rw [h11]; rfl
      clear hb hf eH hR hs A
      rw [h11]
      generalize ByteArray.mk (l.getD 0 []).toArray = X at *
      go_enter Tryz.func21, Tryz.ntmps21
      rw [ez] at H1 h1 A4
      go_wp2_with (first | (refine wpList_build rfl 24 _ rfl (by kernel_rfl) ?_) | (refine wpList_store_row rfl 24 _ _ rfl w.heap.size (cI zC).toArray rfl (by kernel_rfl) 24 _ H1.out IZ.out rfl OZ.out ?_))
      refine ret2 rfl rfl rfl (ld24 A4.out.1.2.1 rfl) rfl ?_
      exact fin _ A4.out
    · have hn11 : ((l.length : Int) != 11) = true := by simp; omega
      clear hb eH hR hs A
      generalize l.length = n at *
      go_enter Tryz.func21, Tryz.ntmps21
      rw [ez] at H1 A4
      go_wp2_with (first | (refine wpList_build rfl 24 _ rfl (by kernel_rfl) ?_) | (refine wpList_store_row rfl 24 _ _ rfl w.heap.size (cI zC).toArray rfl (by kernel_rfl) 24 _ H1.out IZ.out rfl OZ.out ?_))
      refine ret2 rfl rfl rfl (ld24 A4.out.1.2.1 rfl) rfl ?_
      exact fin _ A4.out
end Go.Proofs.YtblojlaifnmimaaGreatDoor
