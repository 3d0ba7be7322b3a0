import Derived.Test.YtdhkdniddjnigaaGreatDoorGf
namespace Go.Proofs.YtdhkdniddjnigaaGreatDoor
open Go.RowKit
set_option linter.unusedVariables false

set_option maxRecDepth 1000000 in
/-- Ask of a replica that is not there. -/
theorem ask_arg {P : Nat} {x : Px} {b m n1 n2 : Int} {cs : List Comp} {w w0 : World} (h : All (pxL P x b m n1 n2 ++ cs) w) (hT : Tab w0) (hin : inC w0 ∈ cs) (k : Int) (nm tx : ByteArray) (a d : Int) (who : Int) (hc : chkA k nm.size tx.size a d = 0) (hk : 6 ≤ k ∧ k ≤ 8) (hw : who < 0 ∨ x.n ≤ who) : Calls Tryz.prog 193 #[.pointer (some ⟨P, 0, none⟩), .int .i64 who, opV k nm tx a d] w fun e w' => e = .returned (.tuple #[.slice none 0 0, .int .i64 1]) ∧ All (pxL P x b m n1 n2 ++ cs) w' := by
  obtain ⟨H, hH⟩ : ∃ H, Hid (H = w.heap.size) := ⟨_, hid rfl⟩
  have A1 := hid (h.addBlk [.int .i64 k, .string nm, .string tx, .int .i64 a, .int .i64 d] 42)
  rw [← hH.out] at A1
  have A1 := hid (A1.out.perm (List.perm_middle (l₁ := pxL P x b m n1 n2)).symm)
  have C : Hid (Calls Tryz.prog 169 #[opV k nm tx a d] (w.alloc (.cells #[.int .i64 k, .string nm, .string tx, .int .i64 a, .int .i64 d] 42)) fun e w' => e = .returned (.int .i64 0) ∧ Below (w.alloc (.cells #[.int .i64 k, .string nm, .string tx, .int .i64 a, .int .i64 d] 42)).heap.size (w.alloc (.cells #[.int .i64 k, .string nm, .string tx, .int .i64 a, .int .i64 d] 42)) w') := hid (by
    have := check_any (hT.below (A1.out.into (List.mem_append_right _ (List.mem_cons_of_mem _ hin)))) k nm tx a d
    rw [hc] at this
    exact this)
  have C31 : Hid (∀ W : World, Calls Tryz.prog 170 #[.int .i64 k] W fun e w' => e = .returned (.bool true) ∧ w' = W) := hid (fun W => by have := query_any (w := W) k; rw [decide_eq_true hk] at this; exact this)
  have hw' : (0 ≤ who ∧ decide (who < 0) = false ∧ decide (x.n ≤ who) = true ∧ x.n ≤ who) ∨ decide (who < 0) = true := by
    by_cases h0 : who < 0
    · exact Or.inr (decide_eq_true h0)
    · exact Or.inl ⟨by omega, decide_eq_false h0, decide_eq_true (by omega), by omega⟩
  clear h hT hin hc hk hw
  rcases hw' with ⟨h0, e1, e2, h2⟩ | e1
  all_goals
    go_enter Tryz.func193, Tryz.ntmps193
    go_wp2_with fail
    refine C.out.mono ?_
    rintro e w1 ⟨rfl, BB⟩
    have A2 : Hid (All (pxL P x b m n1 n2 ++ (blkC H [.int .i64 k, .string nm, .string tx, .int .i64 a, .int .i64 d] 42 :: cs)) w1) := hid (A1.out.later BB)
    simp only [← hH.out]
    clear BB C A1
    have SF : Hid (∀ W, All (pxL P x b m n1 n2 ++ (blkC H [.int .i64 k, .string nm, .string tx, .int .i64 a, .int .i64 d] 42 :: cs)) W → W.cell? ⟨H, 0, none⟩ = some (.int .i64 k) ∧ W.cell? ⟨H, 1, none⟩ = some (.string nm) ∧ W.cell? ⟨H, 2, none⟩ = some (.string tx) ∧ W.cell? ⟨H, 3, none⟩ = some (.int .i64 a) ∧ W.cell? ⟨H, 4, none⟩ = some (.int .i64 d)) := hid (fun W hW => opCells (hW.blk (by simp)))
    have k0 : w1.cell? ⟨H, 0, none⟩ = some (.int .i64 k) := (SF.out _ A2.out).1
    have c0 : w1.cell? ⟨P, 0, none⟩ = some (.int .i64 x.n) := by rw [cell_at A2.out.px]; rfl
    go_wp2_with (go_at_call 170; refine (C31.out _).mono ?_; rintro e w' ⟨rfl, rfl⟩)
    go_ret2
    exact ⟨rfl, (A2.out.perm (List.perm_middle (l₁ := pxL P x b m n1 n2))).tail⟩

/-- What is known of a client. -/
structure PxI (x : Px) (m n1 n2 : Int) : Prop where
  n : x.n = 3 ∨ x.n = 5 ∨ x.n = 7
  v : 0 ≤ x.view
  rq : 0 ≤ x.rq.num ∧ x.rq.num ≤ 1099511627776
  qu : 0 ≤ x.qu.num ∧ x.qu.num ≤ 1099511627776
  b1 : 1 ≤ n1 ∧ n1 ≤ m
  b2 : 1 ≤ n2 ∧ n2 ≤ m
  m : m ≤ 1024
def bg1 (m n1 : Int) (w : Wi) : Int := if w.ask then n1 else min (2 * n1) m
def bg2 (m n2 : Int) (w : Wi) : Int := if w.ask then min (2 * n2) m else n2
/-- What comes of a wish that begins. -/
def BgPost (P : Nat) (x : Px) (b m n1 n2 : Int) (q : Wi) (cs : List Comp) (e : Ending) (w' : World) : Prop :=
  (bgE x q ≠ 0 ∧ e = .returned (.tuple #[.slice none 0 0, .int .i64 (bgE x q)]) ∧ All (pxL P x b m n1 n2 ++ cs) w') ∨
  (bgE x q = 0 ∧ ∃ H, e = .returned (.tuple #[.slice (some ⟨H, 0, none⟩) 1 1, .int .i64 0]) ∧ All (blkC H (bgM x q n1 n2).cells 51 :: (pxL P (bgX x q n1 n2) b m (bg1 m n1 q) (bg2 m n2 q) ++ cs)) w')

theorem submit_any {P : Nat} {x : Px} {b m n1 n2 : Int} {cs : List Comp} {w w0 : World} (h : All (pxL P x b m n1 n2 ++ cs) w) (hT : Tab w0) (hin : inC w0 ∈ cs) (I : PxI x m n1 n2) (q : Wi) (hq : q.ask = false) :
    Calls Tryz.prog 191 #[.pointer (some ⟨P, 0, none⟩), q.o.val] w (BgPost P x b m n1 n2 q cs) := by
  by_cases hc : q.chk = 0
  · cases hw : x.rq.wts with
    | true =>
      have e1 : bgE x q = 141 := by unfold bgE; rw [if_neg (by simp [hc]), hq]; simp [hw]
      refine (submit_no h hT hin q.o.k _ _ _ _ hc (E := 141) (by decide) (fun W cs' hW => begR_busy hW hw _ ⟨_, _, _, _, _, rfl⟩)).mono ?_
      rintro e w' ⟨rfl, hA⟩
      exact Or.inl ⟨by rw [e1]; decide, by rw [e1], hA⟩
    | false =>
      by_cases hn : x.rq.num = 1099511627776
      · have e1 : bgE x q = 142 := by unfold bgE; rw [if_neg (by simp [hc]), hq]; simp [hw, hn]
        refine (submit_no h hT hin q.o.k _ _ _ _ hc (E := 142) (by decide) (fun W cs' hW => begR_end hW hw hn _ ⟨_, _, _, _, _, rfl⟩)).mono ?_
        rintro e w' ⟨rfl, hA⟩
        exact Or.inl ⟨by rw [e1]; decide, by rw [e1], hA⟩
      · have e1 : bgE x q = 0 := by unfold bgE; rw [if_neg (by simp [hc]), hq]; simp [hw, hn]
        refine (submit_ok h hT hin q.o.k _ _ _ _ hc hw I.rq.1 (by have := I.rq.2; omega) I.b1.1 I.b1.2 I.m I.n I.v).mono ?_
        rintro e w' ⟨H, rfl, hA⟩
        refine Or.inr ⟨e1, H, rfl, ?_⟩
        unfold bgM bgX bg1 bg2
        simp only [hq, Bool.false_eq_true, if_false]
        exact hA
  · have e1 : bgE x q = q.chk := by unfold bgE; rw [if_pos hc]
    refine (submit_bad h hT hin q.o.k _ _ _ _ hc).mono ?_
    rintro e w' ⟨rfl, hA⟩
    exact Or.inl ⟨by rw [e1]; exact hc, by rw [e1]; rfl, hA⟩
theorem ask_any' {P : Nat} {x : Px} {b m n1 n2 : Int} {cs : List Comp} {w w0 : World} (h : All (pxL P x b m n1 n2 ++ cs) w) (hT : Tab w0) (hin : inC w0 ∈ cs) (I : PxI x m n1 n2) (q : Wi) (hq : q.ask = true) :
    Calls Tryz.prog 193 #[.pointer (some ⟨P, 0, none⟩), .int .i64 q.who, q.o.val] w (BgPost P x b m n1 n2 q cs) := by
  by_cases hc : q.chk = 0
  · by_cases hk : 6 ≤ q.o.k ∧ q.o.k ≤ 8
    · by_cases hw1 : q.who < 0 ∨ x.n ≤ q.who
      · have e1 : bgE x q = 1 := by unfold bgE; rw [if_neg (by simp [hc]), hq, if_pos rfl, if_neg (fun h => h hk), if_pos hw1]
        refine (ask_arg h hT hin q.o.k _ _ _ _ q.who hc hk hw1).mono ?_
        rintro e w' ⟨rfl, hA⟩
        exact Or.inl ⟨by rw [e1]; decide, by rw [e1], hA⟩
      · cases hw : x.qu.wts with
        | true =>
          have e1 : bgE x q = 141 := by unfold bgE; rw [if_neg (by simp [hc]), hq, if_pos rfl, if_neg (fun h => h hk), if_neg hw1]; simp [hw]
          refine (ask_no h hT hin q.o.k _ _ _ _ q.who hc hk (by omega) (by omega) (E := 141) (by decide) (fun W cs' hW => begQ_busy hW hw _ ⟨_, _, _, _, _, rfl⟩)).mono ?_
          rintro e w' ⟨rfl, hA⟩
          exact Or.inl ⟨by rw [e1]; decide, by rw [e1], hA⟩
        | false =>
          by_cases hn : x.qu.num = 1099511627776
          · have e1 : bgE x q = 142 := by unfold bgE; rw [if_neg (by simp [hc]), hq, if_pos rfl, if_neg (fun h => h hk), if_neg hw1]; simp [hw, hn]
            refine (ask_no h hT hin q.o.k _ _ _ _ q.who hc hk (by omega) (by omega) (E := 142) (by decide) (fun W cs' hW => begQ_end hW hw hn _ ⟨_, _, _, _, _, rfl⟩)).mono ?_
            rintro e w' ⟨rfl, hA⟩
            exact Or.inl ⟨by rw [e1]; decide, by rw [e1], hA⟩
          · have e1 : bgE x q = 0 := by unfold bgE; rw [if_neg (by simp [hc]), hq, if_pos rfl, if_neg (fun h => h hk), if_neg hw1]; simp [hw, hn]
            refine (ask_ok h hT hin q.o.k _ _ _ _ hc hk q.who (by omega) (by omega) hw I.qu.1 (by have := I.qu.2; omega) I.b2.1 I.b2.2 I.m).mono ?_
            rintro e w' ⟨H, rfl, hA⟩
            refine Or.inr ⟨e1, H, rfl, ?_⟩
            unfold bgM bgX bg1 bg2
            simp only [hq, if_true]
            exact hA
    · have e1 : bgE x q = 56 := by unfold bgE; rw [if_neg (by simp [hc]), hq, if_pos rfl, if_pos hk]
      refine (ask_noq h hT hin q.o.k _ _ _ _ q.who hc hk).mono ?_
      rintro e w' ⟨rfl, hA⟩
      exact Or.inl ⟨by rw [e1]; decide, by rw [e1], hA⟩
  · have e1 : bgE x q = q.chk := by unfold bgE; rw [if_pos hc]
    refine (ask_bad h hT hin q.o.k _ _ _ _ q.who hc).mono ?_
    rintro e w' ⟨rfl, hA⟩
    exact Or.inl ⟨by rw [e1]; exact hc, by rw [e1]; rfl, hA⟩
end Go.Proofs.YtdhkdniddjnigaaGreatDoor
