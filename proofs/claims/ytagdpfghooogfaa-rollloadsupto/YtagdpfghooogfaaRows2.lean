import Derived.Test.YtagdpfghooogfaaSmall
namespace Go.Proofs.Ytagdpfghooogfaa
open Go.RowKit
set_option linter.unusedVariables false

theorem Try.info40 : (Try.prog.info? 40).map (fun i => (i.zero, i.size, i.bytes)) = some (some (.slice none 0 0), 1, 24) := by kernel_rfl

/-- Lists of bytes with the slices that they lie in. -/
def bpart (x : Value × List UInt8) : Comp := ownC 5 x.1 (cellsB x.2)
theorem fst_one {bl : List (Value × List UInt8)} (h : ∀ x ∈ bl, ∃ a n c, x.1 = .slice a n c) : ∀ u ∈ bl.map Prod.fst, u.oneCell' = true := by
  intro u hu
  obtain ⟨x, hx, rfl⟩ := List.mem_map.1 hu
  obtain ⟨a, n, c, e⟩ := h x hx
  rw [e]
  rfl

set_option maxHeartbeats 1600000 in
set_option maxRecDepth 1000000 in
theorem rows_any {g : Nat} {ps : List Pl} {cs : List Comp} {w : World} (h : All (rollL g ps ++ cs) w) (hok : OkP ps) :
    Calls Try.prog 19 #[.pointer (some ⟨g, 0, none⟩)] w fun e w' => ∃ (so : Option Addr) (sc : Nat) (bl : List (Value × List UInt8)), e = .returned (.slice so 8 sc) ∧ bl.map Prod.snd = ps.map Pl.bytes ∧ (∀ x ∈ bl, ∃ a c, x.1 = .slice a x.2.length c) ∧ All (ownC 40 (.slice so 8 sc) (bl.map Prod.fst) :: (bl.map bpart ++ (rollL g ps ++ cs))) w' := by
  have HA := hid h
  have HO := hid hok
  obtain ⟨i0, hi, hz0, hz1, hz2⟩ := info_parts Try.info40
  clear h hok
  go_enter Try.func19, Try.ntmps19
  go_wp2
  go_loopw [3, 4] (fun vv iv wr => ∃ (k : Nat) (so : Option Addr) (sc : Nat) (bl : List (Value × List UInt8)), vv = .slice so k sc ∧ iv = .int .i64 (k : Int) ∧ k ≤ 8 ∧ Hid (bl.map Prod.snd = (ps.take k).map Pl.bytes ∧ (∀ x ∈ bl, ∃ a c, x.1 = .slice a x.2.length c) ∧ All (ownC 40 (.slice so k sc) (bl.map Prod.fst) :: (bl.map bpart ++ (rollL g ps ++ cs))) wr)) (fun vv iv _ => 8 - (intOf iv).toNat)
  case atStart => exact ⟨0, none, 0, [], rfl, rfl, Nat.zero_le _, hid ⟨rfl, (fun x hx => absurd hx (by simp)), HA.out.addNil⟩⟩
  case round =>
    obtain ⟨k, so, sc, bl, rfl, rfl, hk, HI⟩ := hrel
    clear HA
    by_cases hlt : k < 8
    case neg =>
      obtain rfl : k = 8 := by omega
      go_wp2
      go_ret
      refine ⟨so, sc, bl, rfl, ?_, HI.out.2.1, HI.out.2.2⟩
      rw [HI.out.1, List.take_of_length_le (by rw [HO.out.1]; omega)]
    have el : decide ((k : Int) < 8) = true := by simp; omega
    obtain ⟨B, hB⟩ : ∃ B, Hid (B = (atP ps (k : Int)).bytes) := ⟨_, hid rfl⟩
    have A1 := hid (HI.out.2.2.perm (List.perm_append_comm_assoc (ownC 40 (.slice so k sc) (bl.map Prod.fst) :: bl.map bpart) (rollL g ps) cs))
    have CT := hid (tell_any A1.out HO.out (k : Int))
    rw [← hB.out] at CT
    have HS := hid (And.intro HI.out.1 HI.out.2.1)
    clear HI A1
    go_wp2_with fail
    refine CT.out.mono ?_
    rintro e w2 ⟨so', sc', rfl, A2⟩
    have A3 : All (ownC 40 (.slice so k sc) (bl.map Prod.fst) :: (bl.map bpart ++ (ownC 5 (.slice so' B.length sc') (cellsB B) :: (rollL g ps ++ cs)))) w2 := A2.perm (by
      have h1 := (List.perm_append_comm_assoc (rollL g ps) (ownC 40 (.slice so k sc) (bl.map Prod.fst) :: bl.map bpart) cs).cons (ownC 5 (.slice so' B.length sc') (cellsB B))
      refine h1.trans ?_
      simp only [List.cons_append]
      exact (List.Perm.swap _ _ _).trans ((List.perm_middle.symm).cons _))
    have hlen : bl.length = k := by
      have := congrArg List.length HS.out.1
      simp only [List.length_map, List.length_take, HO.out.1] at this
      omega
    have A4 := hid (A3.alloc (.cells #[.slice so' B.length sc'] 40))
    have hrow : (w2.alloc (.cells #[.slice so' B.length sc'] 40)).ownsRow 0 40 1 (.slice so k sc) k (bl.map Prod.fst) := by
      have h1 : (w2.alloc (.cells #[.slice so' B.length sc'] 40)).ownsRow 0 40 1 (.slice so k sc) (bl.map Prod.fst).length (bl.map Prod.fst) := A4.out.1.2.1
      rw [List.length_map, hlen] at h1
      exact h1
    have HLN := hid hlen
    obtain ⟨nB, hnB⟩ : ∃ nB, Hid (nB = B.length) := ⟨_, hid rfl⟩
    rw [← hnB.out] at A4 hrow ⊢
    have hnews : ∀ j u, [.slice so' nB sc'][j]? = some u → (w2.alloc (.cells #[.slice so' nB sc'] 40)).cell? ((⟨w2.heap.size, 0, none⟩ : Addr).add j) = some u := by
      intro j u hu
      rw [Addr.add_lit, cell_at (heap_alloc_new w2 _)]
      cases j with
      | zero => simpa using hu
      | succ j => simp at hu
    have hone : ∀ u ∈ [Value.slice so' nB sc'], u.oneCell' = true := by
      intro u hu
      simp only [List.mem_singleton] at hu
      subst hu
      rfl
    clear A2 A3 CT hlen
    go_wp2_with (at_builtin; refine wpList_append_own_at _ rfl (.tmp 9) (.tmp 13) 32 rfl 0 40 i0 (.slice none 0 0) 1 24 Try.underlying32 hi hz0 hz1 hz2 rfl (by decide) _ _ _ rfl hrow ⟨w2.heap.size, 0, none⟩ 1 1 [.slice so' nB sc'] rfl rfl hnews hone (by unfold maxLen; omega) (by omega) (by simp) ?_)
    intro v' w3 hown hgr _ hat
    have A5 := A4.out.ownGrow (vs' := (bl ++ [(Value.slice so' nB sc', B)]).map Prod.fst) (base := 0) (v' := v') (by
      rw [List.length_map, List.length_append, HLN.out]
      simpa using hown) hgr (by simpa using hat)
    obtain ⟨so2, sc2, rfl⟩ := owns_form hown
    have A6 : Hid (All (ownC 40 (.slice so2 (k + 1) sc2) ((bl ++ [(Value.slice so' nB sc', B)]).map Prod.fst) :: ((bl ++ [(Value.slice so' nB sc', B)]).map bpart ++ (rollL g ps ++ cs))) w3) := hid (by
      rw [List.map_append (f := bpart), List.append_assoc]
      exact A5)
    have H7 : Hid ((bl ++ [(Value.slice so' nB sc', B)]).map Prod.snd = (ps.take (k + 1)).map Pl.bytes ∧ ∀ x ∈ (bl ++ [(Value.slice so' nB sc', B)]), ∃ a c, x.1 = .slice a x.2.length c) := hid (by
      have hkp : k < ps.length := by rw [HO.out.1]; exact hlt
      constructor
      · rw [List.map_append, HS.out.1, List.take_succ_eq_append_getElem hkp, List.map_append]
        simp only [List.map_cons, List.map_nil]
        rw [hB.out]
        unfold atP
        rw [if_pos (by omega)]
        simp [List.getD, hkp]
      · intro x hx
        rcases List.mem_append.1 hx with hx | hx
        · exact HS.out.2 x hx
        · simp only [List.mem_singleton] at hx
          subst hx
          exact ⟨so', sc', by simp only; rw [hnB.out]⟩)
    clear hown hgr hat A4 A5 hrow hnews hone HS
    go_wp2
    go_roundw
    case rel => exact ⟨k + 1, so2, sc2, _, rfl, by go_num, by omega, hid ⟨H7.out.1, H7.out.2, A6.out⟩⟩
    case measure => simp [intOf]; omega

end Go.Proofs.Ytagdpfghooogfaa
