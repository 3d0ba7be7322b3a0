import Derived.Test.YtdhkdniddjnigaaGreatDoorE3
namespace Go.Proofs.YtdhkdniddjnigaaGreatDoor
open Go.RowKit
set_option linter.unusedVariables false

/-- A result's words. -/
def resW (c : Nat) (n : Nat) (l : Ws) : Ws := cdN.getD c [] :: (if c = 0 then Lib.decDigits n :: Lib.decDigits l.length :: l else [])
def resA (c n : Int) (l : Ws) : Ws := if chkW c n l ≠ 0 then [] else resW c.toNat n.toNat l
theorem chk_zero {c n : Int} {l : Ws} (h : chkW c n l = 0) : 0 ≤ c ∧ c ≤ 4 ∧ (c ≠ 0 → n = 0 ∧ l = []) ∧ 0 ≤ n ∧ n ≤ 1099511627776 ∧ l.length ≤ 8 ∧ ∀ x ∈ l, x.length ≤ 64 := by
  unfold chkW chkX at h
  split at h
  · simp at h
  rename_i h1
  split at h
  · simp at h
  rename_i h2
  split at h
  · simp at h
  rename_i h3
  split at h
  · simp at h
  rename_i h4
  split at h
  · simp at h
  rename_i h5
  rw [List.length_map] at h4
  refine ⟨by omega, by omega, fun hc => ?_, by omega, by omega, by omega, fun x hx => ?_⟩
  · refine ⟨Classical.byContradiction fun hn => h2 ⟨hc, Or.inl hn⟩, Classical.byContradiction fun hn => h2 ⟨hc, Or.inr (by simpa using hn)⟩⟩
  · apply Classical.byContradiction
    intro hn
    exact h5 ⟨mkB x, List.mem_map.2 ⟨x, hx, rfl⟩, by simp [ByteArray.size]; omega⟩
theorem blk3 {B : Nat} {x y z : Value} {cs : List Comp} {w : World} (h : All (blkC B [x, y, z] 45 :: cs) w) : w.cell? ⟨B, 0, none⟩ = some x ∧ w.cell? ⟨B, 1, none⟩ = some y ∧ w.cell? ⟨B, 2, none⟩ = some z := by
  have hb := h.1.2.1
  exact ⟨by rw [cell_at hb]; rfl, by rw [cell_at hb]; rfl, by rw [cell_at hb]; rfl⟩
set_option maxHeartbeats 1600000 in
set_option maxRecDepth 1000000 in
theorem Result_any {c n : Int} {s : Value} {l : Ws} {cs : List Comp} {w : World} (A : All cs w) (hR : ∀ W, All cs W → Rt W s l) (hV : ∀ W, All cs W → Vars W) (hD : ∀ W, All cs W → Cd W) (hl : l.length ≤ 140737488355328) :
    Calls Tryz.prog 60 #[resV c n s] w (WRPost (resA c n l) (chkW c n l) cs) := by
  obtain ⟨ao, cc, rfl⟩ := (hR w A).form
  have A0 := hid (A.addBlk [.int .i64 c, .int .i64 n, .slice ao l.length cc] 45)
  have CK := hid (check12 c n (hR _ A0.out.tail) hl)
  by_cases hX : chkW c n l ≠ 0
  · have e1 : resA c n l = [] := by unfold resA; rw [if_pos hX]
    rw [e1]
    have hX' : (chkW c n l != 0) = true := by simpa using hX
    clear e1 hX hR hV hD A hl
    generalize chkW c n l = XX at *
    generalize l.length = nl at *
    go_enter Tryz.func60, Tryz.ntmps60
    go_wp2_with (go_at_call 98; refine CK.out.mono ?_; rintro e w1 ⟨rfl, B1⟩; have A1 := hid (A0.out.later B1); clear B1)
    go_ret2
    exact ⟨_, rfl, All.addNil A1.out.tail⟩
  have hX0 : chkW c n l = 0 := Classical.byContradiction hX
  have e1 : resA c n l = resW c.toNat n.toNat l := by unfold resA; rw [if_neg hX]
  obtain ⟨hc0, hc4, hcn, hn0, hn1, hl8, hx64⟩ := chk_zero hX0
  rw [e1]
  rw [hX0] at CK ⊢
  clear hX hX0 e1 A hl hx64
  by_cases hz : c = 0
  · subst hz
    obtain ⟨m, rfl⟩ := Int.eq_ofNat_of_zero_le hn0
    have e2 : resW (0 : Int).toNat (m : Int).toNat l = cdN.getD 0 [] :: Lib.decDigits m :: Lib.decDigits l.length :: l := by rw [Int.toNat_natCast]; rfl
    rw [e2]
    clear e2 hc0 hc4 hcn hn0
    have IT : Hid (∀ (k : Nat) ds W, k ≤ 1099511627776 → All ds W → Vars W → Calls Tryz.prog 61 #[.int .i64 (k : Int)] W fun e w' => e = .returned (.string ⟨(Lib.decDigits k).toArray⟩) ∧ All ds w') := hid (fun k ds W hk hA hVw => by
      have := Itoa_any (v := (k : Int)) hVw (by omega) (by omega)
      rw [itoa_nat] at this
      exact this.mono fun e w' ⟨he, hb⟩ => ⟨he, hA.later hb⟩)
    have C14 : Hid (∀ W, All (blkC w.heap.size [.int .i64 0, .int .i64 (m : Int), .slice ao l.length cc] 45 :: cs) W → Calls Tryz.prog 61 #[.int .i64 (l.length : Int)] W.drew fun e w' => e = .returned (.string ⟨(Lib.decDigits l.length).toArray⟩) ∧ w'.cell? ⟨w.heap.size, 2, none⟩ = some (.slice ao l.length cc) ∧ Hid (Calls Tryz.prog 99 #[.string ⟨(Lib.decDigits l.length).toArray⟩, .slice ao l.length cc] w' fun e w2 => ∃ v', e = .returned v' ∧ All (ownC 9 v' (txW (Lib.decDigits l.length :: l)) :: blkC w.heap.size [.int .i64 0, .int .i64 (m : Int), .slice ao l.length cc] 45 :: cs) w2)) := hid (fun W hA => by
      refine (IT.out l.length _ W.drew (by omega) hA.drew (hV _ hA.drew.tail)).mono ?_
      rintro e w' ⟨rfl, hA'⟩
      exact ⟨rfl, (blk3 hA').2.2, hid (row2 hA' (hR _ hA'.tail) (by omega))⟩)
    have C8 : Hid (∀ v2 W, All (ownC 9 v2 (txW (Lib.decDigits l.length :: l)) :: blkC w.heap.size [.int .i64 0, .int .i64 (m : Int), .slice ao l.length cc] 45 :: cs) W → Calls Tryz.prog 61 #[.int .i64 (m : Int)] W fun e w' => e = .returned (.string ⟨(Lib.decDigits m).toArray⟩) ∧ Hid (Calls Tryz.prog 99 #[.string ⟨(Lib.decDigits m).toArray⟩, v2] w' fun e w2 => ∃ v', e = .returned v' ∧ Hid (Calls Tryz.prog 99 #[.string ⟨(cdN.getD 0 []).toArray⟩, v'] w2 fun e w3 => ∃ v'', e = .returned v'' ∧ All (ownC 9 v'' (txW (cdN.getD 0 [] :: Lib.decDigits m :: Lib.decDigits l.length :: l)) :: cs) w3))) := hid (fun v2 W hA => by
      refine (IT.out m _ W (by omega) hA (hV _ hA.tail.tail)).mono ?_
      rintro e w' ⟨rfl, hA'⟩
      refine ⟨rfl, hid ?_⟩
      refine (row2 hA' (rt_own hA') (by simp; omega)).mono ?_
      rintro e w2 ⟨v', rfl, hA2⟩
      refine ⟨v', rfl, hid ?_⟩
      refine (row2 hA2 (rt_own hA2) (by simp; omega)).mono ?_
      rintro e w3 ⟨v'', rfl, hA3⟩
      exact ⟨v'', rfl, hA3.del.del.del⟩)
    have CD : Hid (∀ W, All cs W → W.cell? ⟨1, 0, none⟩ = some (.string ⟨(cdN.getD 0 []).toArray⟩)) := hid (fun W hA => (hD W hA).2 0 (by omega))
    clear hR hV hD IT
    generalize (cdN.getD 0 [] :: Lib.decDigits m :: Lib.decDigits l.length :: l) = RES at *
    generalize ByteArray.mk (Lib.decDigits l.length).toArray = XL at *
    generalize ByteArray.mk (Lib.decDigits m).toArray = XM at *
    generalize ByteArray.mk (cdN.getD 0 []).toArray = X0 at *
    generalize (Lib.decDigits l.length :: l) = RES1 at *
    generalize l.length = nl at *
    go_enter Tryz.func60, Tryz.ntmps60
    go_wp2_with (go_at_call 98; refine CK.out.mono ?_; rintro e w1 ⟨rfl, B1⟩; have A1 := hid (A0.out.later B1); clear B1; refine Hid.out ?_)
    refine hid ?_
    obtain ⟨y0, y1, y2⟩ := blk3 A1.out
    have d0 := CD.out _ A1.out.tail
    have Q14 := hid (C14.out _ A1.out)
    go_wp2
    go_region_law (go_simp; first | (go_at_call 61; refine Q14.out.mono ?_; rintro e w2 ⟨rfl, y2', Q13⟩) | (go_at_call 99; refine Q13.out.mono ?_; rintro e w3 ⟨v3, rfl, A3⟩))
    all_goals
      have B3 := hid A3
      clear A3
      obtain ⟨z0, z1, z2⟩ := blk3 B3.out.tail
      have P14 := hid (C8.out _ _ B3.out)
      clear C8 C14 Q14 Q13 A1
      go_wp2_with (go_at_call 61; refine P14.out.mono ?_; rintro e w4 ⟨rfl, P13⟩; refine Hid.out ?_)
      refine hid ?_
      go_wp2_with (go_at_call 99; refine P13.out.mono ?_; rintro e w5 ⟨v5, rfl, P13b⟩; refine Hid.out ?_)
      refine hid ?_
      go_wp2_with (go_at_call 99; refine P13b.out.mono ?_; rintro e w6 ⟨v6, rfl, A6⟩; have B6 := hid A6; clear A6; refine Hid.out ?_)
      refine hid ?_
      go_wp2
      go_ret2
      exact ⟨_, rfl, B6.out⟩
  · obtain ⟨rfl, rfl⟩ := hcn hz
    obtain ⟨k, rfl⟩ := Int.eq_ofNat_of_zero_le hc0
    have e2 : resW (k : Int).toNat (0 : Int).toNat [] = [cdN.getD k []] := by unfold resW; rw [Int.toNat_natCast, if_neg (by omega)]
    rw [e2]
    clear e2 hn0 hn1 hl8 hc0 hcn
    have CD : Hid (∀ W, All cs W → W.cell? ⟨1, k, none⟩ = some (.string ⟨(cdN.getD k []).toArray⟩)) := hid (fun W hA => (hD W hA).2 k (by omega))
    have RW : Hid (∀ W, All (blkC w.heap.size [.int .i64 (k : Int), .int .i64 0, .slice ao 0 cc] 45 :: cs) W → Calls Tryz.prog 99 #[.string ⟨(cdN.getD k []).toArray⟩, .slice none 0 0] W fun e w3 => ∃ v'', e = .returned v'' ∧ All (ownC 9 v'' (txW [cdN.getD k []]) :: cs) w3) := hid (fun W hA => by
      refine (row2 hA (rt_nil W) (by simp)).mono ?_
      rintro e w3 ⟨v'', rfl, hA3⟩
      exact ⟨v'', rfl, hA3.del⟩)
    have nz : ((k : Int) != 0) = true := by simpa using hz
    have hk5 : (k : Int) < 5 := by omega
    clear hR hV hD hz
    generalize [cdN.getD k []] = RES at *
    generalize ByteArray.mk (cdN.getD k []).toArray = X0 at *
    simp only [List.length_nil] at *
    go_enter Tryz.func60, Tryz.ntmps60
    go_wp2_with (go_at_call 98; refine CK.out.mono ?_; rintro e w1 ⟨rfl, B1⟩; have A1 := hid (A0.out.later B1); clear B1; refine Hid.out ?_)
    refine hid ?_
    obtain ⟨y0, y1, y2⟩ := blk3 A1.out
    have d0 := CD.out _ A1.out.tail
    have Q13 := hid (RW.out _ A1.out)
    go_wp2_with (go_at_call 99; refine Q13.out.mono ?_; rintro e w5 ⟨v5, rfl, A5⟩; have B5 := hid A5; clear A5; refine Hid.out ?_)
    refine hid ?_
    go_wp2
    go_ret2
    exact ⟨_, rfl, B5.out⟩
end Go.Proofs.YtdhkdniddjnigaaGreatDoor
