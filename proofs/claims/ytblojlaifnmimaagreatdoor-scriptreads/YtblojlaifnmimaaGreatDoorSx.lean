import Derived.Test.YtblojlaifnmimaaGreatDoorSw
namespace Go.Proofs.YtblojlaifnmimaaGreatDoor
open Go.RowKit
set_option linter.unusedVariables false

theorem sp_cell {w : World} {ao : Option Addr} {n c : Nat} {ss : List Sp} (h : Sps w (.slice ao n c) ss) {i j : Nat} {x : Sp} {u : Value} (hx : ss[i]? = some x) (hu : x.vals[j]? = some u) : ∃ g o, ao = some ⟨g, o, none⟩ ∧ w.cell? ⟨g, o + i * 10 + j, none⟩ = some u := by
  obtain ⟨ao', c', e, hc, hh⟩ := h
  simp only [Value.slice.injEq] at e
  obtain ⟨rfl, _, _⟩ := e
  obtain ⟨g, o, ea, hg, hr⟩ := hh i x hx
  exact ⟨g, o, ea, hr j u hu⟩
theorem All.addSp {cs : List Comp} {w : World} (h : All cs w) (x : Sp) : All (spC (.slice (some ⟨w.heap.size, 0, none⟩) 1 1) [x] :: cs) (w.alloc (.cells x.vals.toArray 43)) := by
  refine h.add (Fr.below (ba w _)) (rowC_good _ _ _ _ _) ?_ (fun k hk => ?_)
  · exact ⟨by simp [Sp.len], Or.inr ⟨w.heap.size, 1, x.vals.toArray, rfl, Nat.zero_le _, heap_alloc_new w _, Nat.le_refl _, by unfold maxLen; omega, rfl, by simp [Sp.vals]⟩⟩
  · have : k = w.heap.size := by simpa [rowC, Value.ownBlock, eq_comm] using hk
    subst this
    exact ⟨Nat.le_refl _, by simp⟩
theorem ba_lit {x y : List UInt8} : ((⟨x.toArray⟩ : ByteArray).toList == y) = decide (x = y) := by
  rw [Lib.toList_data, Bool.eq_iff_iff, beq_iff_eq, decide_eq_true_eq]

abbrev TA1 : Array UInt8 := #[102, 108, 101, 101, 116, 32, 51, 32, 49, 32, 50, 32, 51, 32, 56, 32, 54, 52, 32, 52, 32, 52, 32, 56, 32, 50, 10, 116, 105, 99, 107, 32, 48, 10, 35, 32, 97, 32, 114, 101, 109, 97, 114, 107, 10, 10, 115, 117, 98, 109, 105, 116, 32, 48, 32, 109, 97, 107, 101, 32, 113, 10, 114, 111, 117, 110, 100]
abbrev TA2 : Array UInt8 := #[102, 108, 101, 101, 116, 32, 51, 32, 49, 32, 50, 32, 51, 32, 56, 32, 54, 52, 32, 52, 32, 52, 32, 56, 32, 50, 10, 116, 105, 99, 107, 10, 116, 111, 99, 107, 32, 49]

set_option maxHeartbeats 3200000 in
set_option maxRecDepth 1000000 in
theorem shown_any {cs : List Comp} {w : World} (A : All cs w) (hE : ∀ W, All cs W → En W) : Calls Tryz.prog 8 #[] w fun e w' => e = .returned (.bool true) ∧ All cs w' := by
  have Q1 : Hid (Calls Tryz.prog 9 #[.string ⟨TA1⟩] w fun e w' => ∃ a1 c1, e = .returned (.tuple #[.agg #[.int .i64 3, .int .i64 1, .int .i64 2, .int .i64 3, .int .i64 8, .int .i64 64, .int .i64 4, .int .i64 4, .int .i64 8, .int .i64 2, .slice a1 3 c1], .int .i64 0, .int .i64 0]) ∧ All (spC (.slice a1 3 c1) S1 :: cs) w') := hid (by
    have := Parse_any (l := T1) A hE (by decide)
    rw [parse1] at this
    have this : Calls Tryz.prog 9 #[.string ⟨TA1⟩] w (PPost (.ok C1 S1) cs) := this
    refine this.mono ?_
    rintro e w' ⟨v, he, h⟩
    obtain ⟨a1, c1, rfl⟩ := owns_form (h.1.2.1 : w'.ownsRow 0 43 10 v S1.length _)
    exact ⟨a1, c1, he, h⟩)
  have Q2 : Hid (∀ ds W, All ds W → (∀ W, All ds W → All cs W) → Calls Tryz.prog 9 #[.string ⟨TA2⟩] W fun e w' => ∃ a1 c1, e = .returned (.tuple #[.agg #[.int .i64 0, .int .i64 0, .int .i64 0, .int .i64 0, .int .i64 0, .int .i64 0, .int .i64 0, .int .i64 0, .int .i64 0, .int .i64 0, .slice a1 0 c1], .int .i64 2, .int .i64 171]) ∧ All ds w') := hid (fun ds W h hcs => by
    have := Parse_any (l := T2) h (fun W h => hE W (hcs W h)) (by decide)
    rw [parse2] at this
    refine this.mono ?_
    rintro e w' ⟨v, he, h⟩
    obtain ⟨a1, c1, rfl⟩ := owns_form (h.1.2.1 : w'.ownsRow 0 43 10 v 0 _)
    exact ⟨a1, c1, he, h.tail⟩)
  have Q3 : Hid (∀ ds W v, All ds W → (∀ W, All ds W → All cs W) → Sps W v [S3] → Calls Tryz.prog 13 #[.agg #[.int .i64 3, .int .i64 1, .int .i64 2, .int .i64 3, .int .i64 8, .int .i64 64, .int .i64 4, .int .i64 4, .int .i64 8, .int .i64 2, v]] W fun e w' => e = .returned (.tuple #[.string ⟨T3.toArray⟩, .int .i64 0]) ∧ All ds w') := hid (fun ds W v h hcs hv => by
    have := Print_any (c := C1) (v := v) (ss := [S3]) (hE W (hcs W h)) rfl hv (by
      intro s hs
      simp only [List.mem_cons, List.not_mem_nil, or_false] at hs
      subst hs
      unfold spI S3
      decide) (by decide)
    rw [print3.1, print3.2] at this
    exact this.mono fun e w' ⟨he, hb⟩ => ⟨he, h.later hb⟩)
  have hT : (((⟨T3.toArray⟩ : ByteArray).toList == ([102, 108, 101, 101, 116, 32, 51, 32, 49, 32, 50, 32, 51, 32, 56, 32, 54, 52, 32, 52, 32, 52, 32, 56, 32, 50, 10, 97, 115, 107, 32, 48, 32, 50, 32, 114, 101, 97, 100, 32, 113, 32, 51, 32, 50, 10] : List UInt8)) = true) := by
    rw [ba_lit]; exact decide_eq_true rfl
  clear A hE
  generalize hX3 : ByteArray.mk T3.toArray = X3 at *
  clear hX3
  go_enter Tryz.func8, Tryz.ntmps8
  go_wp2_with (go_at_call 9; refine Q1.out.mono ?_; rintro e w1 ⟨a1, c1, rfl, A1⟩; have K1 := hid A1; clear A1; refine Hid.out ?_)
  refine hid ?_
  clear Q1
  have K2 := hid (K1.out.addBlk [.int .i64 3, .int .i64 1, .int .i64 2, .int .i64 3, .int .i64 8, .int .i64 64, .int .i64 4, .int .i64 4, .int .i64 8, .int .i64 2, .slice a1 3 c1] 27)
  have Q2' := hid (Q2.out _ _ K2.out (fun W h => h.tail.tail))
  clear Q2 K1
  go_wp2_with (go_at_call 9; refine Q2'.out.mono ?_; rintro e w2 ⟨a2, c2, rfl, A2⟩; have K3 := hid A2; clear A2; refine Hid.out ?_)
  refine hid ?_
  clear Q2' K2
  generalize w1.heap.size = P at *
  obtain ⟨p0, _, hPw⟩ := blk_at (j := 0) K3.out (.head _) rfl
  have p1 := (blk_at (j := 1) K3.out (.head _) rfl).1
  have p2 := (blk_at (j := 2) K3.out (.head _) rfl).1
  have p3 := (blk_at (j := 3) K3.out (.head _) rfl).1
  have p4 := (blk_at (j := 4) K3.out (.head _) rfl).1
  have p5 := (blk_at (j := 5) K3.out (.head _) rfl).1
  have p6 := (blk_at (j := 6) K3.out (.head _) rfl).1
  have p7 := (blk_at (j := 7) K3.out (.head _) rfl).1
  have p8 := (blk_at (j := 8) K3.out (.head _) rfl).1
  have p9 := (blk_at (j := 9) K3.out (.head _) rfl).1
  have p10 := (blk_at (j := 10) K3.out (.head _) rfl).1
  go_wp2_with fail
  clear p0 p1 p2 p3 p4 p5 p6 p7 p8 p9 p10 hPw
  have K4 := hid ((((K3.out.alloc (.cells #[.int .i64 0, .int .i64 0, .int .i64 0, .int .i64 0, .int .i64 0, .int .i64 0, .int .i64 0, .int .i64 0, .int .i64 0, .int .i64 0, .slice a2 0 c2] 27)).alloc (.cells #[.int .i64 3, .int .i64 1, .int .i64 2, .int .i64 3, .int .i64 8, .int .i64 64, .int .i64 4, .int .i64 4, .int .i64 8, .int .i64 2, .slice (some ⟨w2.heap.size + 1 + 1, 0, none⟩) 1 1] 27)).addSp S3))
  have esz : ((w2.alloc (.cells #[.int .i64 0, .int .i64 0, .int .i64 0, .int .i64 0, .int .i64 0, .int .i64 0, .int .i64 0, .int .i64 0, .int .i64 0, .int .i64 0, .slice a2 0 c2] 27)).alloc (.cells #[.int .i64 3, .int .i64 1, .int .i64 2, .int .i64 3, .int .i64 8, .int .i64 64, .int .i64 4, .int .i64 4, .int .i64 8, .int .i64 2, .slice (some ⟨w2.heap.size + 1 + 1, 0, none⟩) 1 1] 27)).heap.size = w2.heap.size + 1 + 1 := by simp
  rw [esz] at K4
  clear esz
  have Q13 := hid (Q3.out _ _ _ K4.out (fun W h => h.tail.tail.tail) (sps_mem K4.out (.head _)))
  refine (show Calls Tryz.prog 13 _ _ _ from Q13.out).mono ?_
  clear Q13 Q3
  rintro e w4 ⟨rfl, A4⟩
  have K5 := hid A4.tail
  clear A4 K4 K3
  obtain ⟨p0, _, hPw⟩ := blk_at (j := 0) K5.out (.head _) rfl
  have p9 := (blk_at (j := 9) K5.out (.head _) rfl).1
  have p10 := (blk_at (j := 10) K5.out (.head _) rfl).1
  obtain ⟨g, o, hga, hc⟩ := sp_cell (i := 1) (j := 6) (sps_mem K5.out (.tail _ (.head _))) rfl rfl
  subst hga
  go_wp2
  go_ret
  exact ⟨rfl, K5.out.tail.tail⟩
end Go.Proofs.YtblojlaifnmimaaGreatDoor
