import Derived.Test.YtkcepkehgkkkbaaGreatDoorShown
namespace Go.Proofs.YtkcepkehgkkkbaaGreatDoor
open Go.RowKit
set_option linter.unusedVariables false

theorem tab_in {w w' : World} {cs : List Comp} (hT : Tab w) (h : All cs w') (hm : inC w ∈ cs) : Tab w' := hT.below (h.into hm)

theorem mapG_has (x : List UInt8) : Maps.has mapG (.string x) = true ↔ x = [103] := by
  by_cases e : x = [103]
  · subst e
    exact ⟨fun _ => rfl, fun _ => by kernel_rfl⟩
  · have : Maps.has mapG (.string x) = false := by
      rw [Maps.has_put_other (by intro h; injection h with h; exact e h)]
      rfl
    simp [this, e]
theorem mapG_left : leftD mapG (.string [103]) = (1 : Nat) := by kernel_rfl
theorem mapG_size : Maps.size mapG = 1 := by kernel_rfl
theorem slot_ex : slotB sA 0 [sX] [([103], ((1 : Nat) : Int))] = [1, 97, 0, 1, 1, 120, 1, 1, 103, 1] := by kernel_rfl

set_option maxHeartbeats 3200000 in
set_option maxRecDepth 1000000 in
theorem shown_any {w : World} (hT : Tab w) : Calls Tryz.prog 6 #[] w fun e w' => e = .returned (.bool true) ∧ Below w.heap.size w w' := by
  have HT := hid hT
  clear hT
  go_enter Tryz.func6, Tryz.ntmps6
  go_wp2_with fail
  refine (New_any (All.came w)).mono ?_
  rintro e w1 ⟨P, rfl, A1, _, _⟩
  have A1 := hid A1
  go_wp2_with fail
  refine (do_make (P := P) (cs := [inC w]) (fun w' h => tab_in HT.out h mem2) A1.out).mono ?_
  rintro e w2 ⟨b, rfl, A2⟩
  have A2 := hid (A2.addBlk [.int .i64 0, .int .i64 0, .slice none 0 0] 41)
  clear A1
  generalize hX : w2.heap.size = X at A2
  go_wp2_with fail
  have A3 := hid ((A2.out.addNil (e := 9)).perm (ds := [blkC P (flat (zeroQ.set 0 ⟨sA, 0, .slice none 0 0, .map (some b)⟩)) 122, ownC 9 (.slice none 0 0) (txtV [])] ++ [blkC X [.int .i64 0, .int .i64 0, .slice none 0 0] 41, mapC b 0 (.map []), inC w]) (List.perm_middle (l₁ := [ownC 9 (.slice none 0 0) [], blkC X [.int .i64 0, .int .i64 0, .slice none 0 0] 41])))
  refine (do_push (P := P) (fun w' h => tab_in HT.out h (by simp)) A3.out).mono ?_
  rintro e w3 ⟨iv, rfl, A4⟩
  clear A2 A3 hX
  have A4 := hid (A4.perm (ds := [blkC X [.int .i64 0, .int .i64 0, .slice none 0 0] 41, blkC P (flat (zeroQ.set 0 ⟨sA, 0, iv, .map (some b)⟩)) 122, ownC 9 iv (txtV [sX]), mapC b 0 (.map []), inC w]) (List.perm_middle (l₁ := [blkC P (flat (zeroQ.set 0 ⟨sA, 0, iv, .map (some b)⟩)) 122, ownC 9 iv (txtV [sX])])))
  have r0 := A4.out.r0
  have r1 := A4.out.r1
  have r2 := A4.out.r2
  have g0 := A4.out.rf 0
  have g1 := A4.out.rf 1
  have g2 := A4.out.rf 2
  have A5 := hid (A4.out.setR (.int .i64 0) (.int .i64 0) (.slice none 0 0))
  clear A4
  go_wp2_with fail
  generalize ((w3.setCell ⟨X, 0, none⟩ (.int .i64 0)).setCell ⟨X, 1, none⟩ (.int .i64 0)).setCell ⟨X, 2, none⟩ (.slice none 0 0) = w4 at A5 ⊢
  have A6 := hid (A5.out.perm (ds := [blkC P (flat (zeroQ.set 0 ⟨sA, 0, iv, .map (some b)⟩)) 122, ownC 9 iv (txtV [sX]), mapC b 0 (.map [])] ++ [blkC X [.int .i64 0, .int .i64 0, .slice none 0 0] 41, inC w]) (List.perm_middle (l₁ := [blkC P (flat (zeroQ.set 0 ⟨sA, 0, iv, .map (some b)⟩)) 122, ownC 9 iv (txtV [sX]), mapC b 0 (.map [])])).symm)
  refine (do_take (P := P) (fun w' h => tab_in HT.out h (by simp)) A6.out).mono ?_
  rintro e w5 ⟨so, rfl, A7⟩
  clear A5 A6 r0 r1 r2 g0 g1 g2
  have A7 := hid (A7.perm (ds := [blkC X [.int .i64 0, .int .i64 0, .slice none 0 0] 41, blkC P (flat (zeroQ.set 0 ⟨sA, 0, iv, .map (some b)⟩)) 122, ownC 9 iv (txtV [sX]), mapC b 1 mapG, ownC 9 (.slice so 1 1) (txtV [sX]), inC w]) (List.perm_middle (l₁ := [blkC P (flat (zeroQ.set 0 ⟨sA, 0, iv, .map (some b)⟩)) 122, ownC 9 iv (txtV [sX]), mapC b 1 mapG, ownC 9 (.slice so 1 1) (txtV [sX])])))
  have r0 := A7.out.r0
  have r1 := A7.out.r1
  have r2 := A7.out.r2
  have g0 := A7.out.rf 0
  have g1 := A7.out.rf 1
  have g2 := A7.out.rf 2
  have A8 := hid (A7.out.setR (.int .i64 0) (.int .i64 0) (.slice so 1 1))
  clear A7
  go_wp2_with fail
  have A9 := hid (A8.out.addOne sX)
  have hsz : (((w5.setCell ⟨X, 0, none⟩ (.int .i64 0)).setCell ⟨X, 1, none⟩ (.int .i64 0)).setCell ⟨X, 2, none⟩ (.slice so 1 1)).heap.size = w5.heap.size := by simp [World.setCell]
  rw [hsz] at A9
  clear hsz A8
  refine (sameResult_true 0 0 (l := [sX]) (txts_of (e := 9) A9.out (by simp)) (txts_of (e := 9) A9.out List.mem_cons_self) (by simp)).mono ?_
  rintro e w6 ⟨rfl, B6⟩
  have A10 := hid ((A9.out.later B6).perm (ds := blkC P (flat (zeroQ.set 0 ⟨sA, 0, iv, .map (some b)⟩)) 122 :: ownC 9 iv (txtV [sX]) :: mapC b 1 mapG :: [ownC 9 (.slice (some ⟨w5.heap.size, 0, none⟩) 1 1) (txtV [sX]), blkC X [.int .i64 0, .int .i64 0, .slice so 1 1] 41, ownC 9 (.slice so 1 1) (txtV [sX]), inC w]) ((List.perm_append_comm (l₁ := [ownC 9 (.slice (some ⟨w5.heap.size, 0, none⟩) 1 1) (txtV [sX]), blkC X [.int .i64 0, .int .i64 0, .slice so 1 1] 41]) (l₂ := [blkC P (flat (zeroQ.set 0 ⟨sA, 0, iv, .map (some b)⟩)) 122, ownC 9 iv (txtV [sX]), mapC b 1 mapG])).append_right [ownC 9 (.slice so 1 1) (txtV [sX]), inC w]))
  clear A9 B6 r0 r1 r2 g0 g1 g2
  have SL := hid (Slot_one (i := 0) (nm := sA) (first := 0) (items := [sX]) (x0 := [103]) (c0 := 1) A10.out rfl rfl (by omega) (by decide +kernel) (by decide +kernel) (by omega) (by decide +kernel) (by decide) (by decide) mapG_has mapG_left (by omega) mapG_size)
  clear A10
  go_wp2_with fail
  refine SL.out.mono ?_
  rintro e w7 ⟨s7, n7, c7, rfl, A11⟩
  rw [slot_ex] at A11
  have A11 := hid A11
  clear SL
  obtain ⟨hn, hn'⟩ := owns_len (A11.out.1.2.1 : w7.ownsRow 0 5 1 (.slice s7 n7 c7) (cellsB [1, 97, 0, 1, 1, 120, 1, 1, 103, 1]).length (cellsB [1, 97, 0, 1, 1, 120, 1, 1, 103, 1]))
  have hn7 : n7 = 10 := hn
  clear hn hn'
  subst hn7
  go_wp2_with fail
  have A12 := hid (A11.out.alloc (.cells (cellsB [1, 97, 0, 1, 1, 120, 1, 1, 103, 1]).toArray 5))
  have RA := hid (Reads.of_owns (l := [1, 97, 0, 1, 1, 120, 1, 1, 103, 1]) (A12.out.1.2.1))
  have RB := hid (Reads.of_owns (l := [1, 97, 0, 1, 1, 120, 1, 1, 103, 1]) (World.ownsRow_lit (base := 0) (e := 5) (size := 1) w7 (cellsB [1, 97, 0, 1, 1, 120, 1, 1, 103, 1]).toArray 10 (Nat.zero_le _) (by unfold maxLen; omega) rfl))
  have eC : (cellsB [1, 97, 0, 1, 1, 120, 1, 1, 103, 1]).toArray = #[.int .u8 1, .int .u8 97, .int .u8 0, .int .u8 1, .int .u8 1, .int .u8 120, .int .u8 1, .int .u8 1, .int .u8 103, .int .u8 1] := by kernel_rfl
  rw [eC] at A12 RA RB
  refine (same_true RA.out RB.out (by simp)).mono ?_
  rintro e w8 ⟨rfl, B8⟩
  have A13 := hid (A12.out.later B8)
  clear A12 RA RB B8 A11
  go_wp2
  go_ret
  exact ⟨rfl, A13.out.into (by simp)⟩
end Go.Proofs.YtkcepkehgkkkbaaGreatDoor
