import Derived.Test.YtaomhahmpbfjhaaJ9
import Derived.Deep.CutBlock
import Derived.Test.YtaomhahmpbfjhaaTree
import Derived.Test.YtaomhahmpbfjhaaJ10
namespace Go.Proofs.Ytaomhahmpbfjhaa
open Go.RowKit
set_option linter.unusedVariables false

theorem rowM_cells {w : World} {base : Nat} {ao : Option Addr} {n c : Nat} {M : List Mk} (h : w.ownsRow base 79 2 (.slice ao n c) M.length (flatM M)) {i : Nat} {x : Mk} (hx : M[i]? = some x) : ∃ g, ao = some ⟨g, 0, none⟩ ∧ g < w.heap.size ∧ w.cell? ⟨g, i * 2, none⟩ = some (.slice x.a x.m x.c) ∧ w.cell? ⟨g, i * 2 + 1, none⟩ = some (.int .u8 x.s) := by
  have hi := (List.getElem?_eq_some_iff.1 hx).1
  rcases h.2 with ⟨_, e⟩ | ⟨g, cap, cur, e, _, h2, h3, h4, h5, h6⟩
  · omega
  · simp only [Value.slice.injEq] at e
    obtain ⟨rfl, rfl, rfl⟩ := e
    have key : ∀ j, j < 2 → cur[i * 2 + j]? = x.cells[j]? := fun j hj => by
      have e1 : (cur.toList.take (M.length * 2))[i * 2 + j]? = (flatM M)[i * 2 + j]? := by rw [h6]
      rw [List.getElem?_take, if_pos (by omega), Array.getElem?_toList, flatM_at hx hj] at e1
      exact e1
    refine ⟨g, rfl, (Array.getElem?_eq_some_iff.1 h2).1, ?_, ?_⟩
    · rw [cell_at h2]; exact key 0 (by omega)
    · rw [cell_at h2]; exact key 1 (by omega)

theorem belowT {a b c : World} (h : Below a.heap.size a b) (k : Below b.heap.size b c) : Below a.heap.size a c :=
  ⟨k.os.trans h.os, k.tape.trans h.tape, k.output.trans h.output, Nat.le_trans h.size k.size, fun i hi => (k.block i (Nat.lt_of_lt_of_le hi h.size)).trans (h.block i hi)⟩
set_option maxRecDepth 1000000 in
set_option maxHeartbeats 1600000 in
/-- All that was handed out bears its mark alone. -/
theorem stand_any {vm : Value} {M : List Mk} {cs : List Comp} {w : World} (hA : All (markC vm M :: (M.map Mk.comp ++ cs)) w) (hM : M.length ≤ 1099511627776) (hm : ∀ x ∈ M, x.m ≤ 1099511627776) : Calls Try.prog 11 #[vm] w fun e w' => e = .returned (.bool true) ∧ Below w.heap.size w w' := by
  obtain ⟨am, cm, rfl⟩ := owns_form (show w.ownsRow 0 79 2 vm M.length (flatM M) from hA.1.2.1)
  have HA := hid hA
  have HM := hid hm
  clear hA hm
  go_enter Try.func11, Try.ntmps11
  go_wp2_with fail
  go_loopw [9] (fun iv wr => ∃ (i : Nat), i ≤ M.length ∧ iv = .int .i64 (i : Int) ∧ Hid (Below w.heap.size w wr)) (fun iv _ => M.length - (intOf iv).toNat)
  case atStart => exact ⟨0, by omega, rfl, hid (Below.refl _ _)⟩
  case round =>
    obtain ⟨i, hi, rfl, hbw⟩ := hrel
    by_cases hlt : i < M.length
    · have l1 : decide ((i : Int) < (M.length : Int)) = true := decide_eq_true (by omega)
      have l2 : (i : Int) < (M.length : Int) := by omega
      obtain ⟨x, hx⟩ : ∃ x, M[i]? = some x := ⟨_, List.getElem?_eq_getElem hlt⟩
      have hxm := List.mem_of_getElem? hx
      have hA := HA.out.later hbw.out
      obtain ⟨g, rfl, hg, y0, y1⟩ := rowM_cells (show wr.ownsRow 0 79 2 (.slice am M.length cm) M.length (flatM M) from hA.1.2.1) hx
      obtain ⟨K, hK⟩ : ∃ K, Hid (K = wr.heap.size) := ⟨_, hid rfl⟩
      have hrow : (wr.alloc (.cells #[.slice x.a x.m x.c, .int .u8 x.s] 79)).ownsRow 0 5 1 (.slice x.a x.m x.c) (List.replicate x.m (Value.int .u8 x.s)).length (List.replicate x.m (.int .u8 x.s)) :=
        ((hA.alloc (.cells #[.slice x.a x.m x.c, .int .u8 x.s] 79)).mem (c := Mk.comp x) (by simp only [List.mem_cons, List.mem_append, List.mem_map]; exact .inr (.inl ⟨x, hxm, rfl⟩))).2.1
      have HRW := hid hrow
      have hx64 := HM.out x hxm
      have z1 : (wr.alloc (.cells #[.slice x.a x.m x.c, .int .u8 x.s] 79)).cell? ⟨K, 1, none⟩ = some (.int .u8 x.s) := by rw [hK.out, cell_at (heap_alloc_new wr _)]; rfl
      have hb1 := hid (belowT hbw.out (ba wr (.cells #[.slice x.a x.m x.c, .int .u8 x.s] 79)))
      clear hA hrow hx hxm
      go_upto_block 2 with fail
      rw [← hK.out]
      clear y0 y1 hg hK
      generalize (wr.alloc (.cells #[.slice x.a x.m x.c, .int .u8 x.s] 79)) = w4 at *
      go_wp2_with fail
      go_loopw [16] (fun iv wr => ∃ (j : Nat), j ≤ x.m ∧ iv = .int .i64 (j : Int) ∧ Hid (wr = w4)) (fun iv _ => x.m - (intOf iv).toNat)
      case atStart => exact ⟨0, by omega, rfl, hid rfl⟩
      case round =>
        obtain ⟨j, hj, rfl, hw⟩ := hrel
        have hw' := hw.out
        clear hw
        subst hw'
        by_cases hjl : j < x.m
        · have q1 : decide ((j : Int) < (x.m : Int)) = true := decide_eq_true (by omega)
          have q2 : (j : Int) < (x.m : Int) := by omega
          obtain ⟨gx, ex, cx, _⟩ := owns_at HRW.out (k := j) (u := .int .u8 x.s) (by rw [List.getElem?_replicate, if_pos hjl])
          rw [ex]
          go_wp2_with fail
          go_roundw
          case rel => exact ⟨j + 1, by omega, by go_num, hid trivial⟩
          case measure => simp [intOf]; omega
        · have q1 : decide ((j : Int) < (x.m : Int)) = false := decide_eq_false (by omega)
          have q2 : ¬ (j : Int) < (x.m : Int) := by omega
          go_wp2_with fail
          go_roundw
          case rel => exact ⟨i + 1, by omega, by go_num, hb1⟩
          case measure => simp [intOf]; omega
    · have l1 : decide ((i : Int) < (M.length : Int)) = false := decide_eq_false (by omega)
      have l2 : ¬ (i : Int) < (M.length : Int) := by omega
      go_wp2
      go_ret
      exact ⟨rfl, hbw.out⟩
end Go.Proofs.Ytaomhahmpbfjhaa

namespace Go.Proofs.Ytaomhahmpbfjhaa
open Go.RowKit
set_option linter.unusedVariables false

/-- A sheet, as it came in. -/
structure Sh where
  num : Int
  at_ : Int
  ao : Option Addr
  len : Nat
  cap : Nat
  bs : List UInt8
def Sh.cells (x : Sh) : List Value := [.int .i64 x.num, .int .i64 x.at_, .slice x.ao x.len x.cap]
/-- Sheets that can be read. -/
def ShR (w : World) (ao : Option Addr) (xs : List Sh) : Prop := xs = [] ∨ ∃ b off, ao = some ⟨b, off, none⟩ ∧ b < w.heap.size ∧ ∀ i x, xs[i]? = some x → ∀ j u, x.cells[j]? = some u → w.cell? ⟨b, off + i * 3 + j, none⟩ = some u
theorem ShR.later {w w' : World} {ao : Option Addr} {xs : List Sh} (h : ShR w ao xs) (hb : Below w.heap.size w w') : ShR w' ao xs := by
  rcases h with h | ⟨b, off, e, hlt, hc⟩
  · exact .inl h
  · exact .inr ⟨b, off, e, Nat.lt_of_lt_of_le hlt hb.size, fun i x hx j u hu => cell_under hb hlt (hc i x hx j u hu)⟩
theorem ShR.at {w : World} {ao : Option Addr} {xs : List Sh} (h : ShR w ao xs) {i : Nat} {x : Sh} (hx : xs[i]? = some x) : ∃ b off, ao = some ⟨b, off, none⟩ ∧ b < w.heap.size ∧ w.cell? ⟨b, off + i * 3, none⟩ = some (.int .i64 x.num) ∧ w.cell? ⟨b, off + i * 3 + 1, none⟩ = some (.int .i64 x.at_) ∧ w.cell? ⟨b, off + i * 3 + 2, none⟩ = some (.slice x.ao x.len x.cap) := by
  rcases h with rfl | ⟨b, off, e, hlt, hc⟩
  · simp at hx
  · exact ⟨b, off, e, hlt, hc i x hx 0 _ rfl, hc i x hx 1 _ rfl, hc i x hx 2 _ rfl⟩
/-- What a check tells. -/
def chk1 (n : Nat) (last : Int) (x : Sh) : Int := if ¬ (0 ≤ x.num ∧ x.num < n) then 61 else if x.num ≤ last then 64 else if ¬ (1 ≤ x.at_ ∧ x.at_ ≤ 1099511627776) then 62 else if 2304 < x.len then 63 else 0
def chkE (n : Nat) : Int → List Sh → Int
  | _, [] => 0
  | last, x :: r => if chk1 n last x = 0 then chkE n x.num r else chk1 n last x

set_option maxRecDepth 1000000 in
set_option maxHeartbeats 3200000 in
theorem check_any {w : World} {g n : Nat} {ao : Option Addr} {c : Nat} {xs : List Sh} (hn : w.cell? ⟨g, 0, none⟩ = some (.int .i64 (n : Int))) (hR : ShR w ao xs) (hl : xs.length ≤ 1099511627776) :
    Calls Try.prog 46 #[.pointer (some ⟨g, 0, none⟩), .slice ao xs.length c] w fun e w' => e = .returned (.int .i64 (chkE n (-1) xs)) ∧ Below w.heap.size w w' := by
  have HR := hid hR
  have HN := hid hn
  have hgw := World.block_lt_of_cell? _ _ hn
  clear hR hn
  go_enter Try.func46, Try.ntmps46
  go_wp2_with fail
  go_loopw [5, 10] (fun p5 p10 wr => ∃ (i : Nat) (L : Int), i ≤ xs.length ∧ p10 = .int .i64 (i : Int) ∧ p5 = .int .i64 L ∧ Hid (chkE n (-1) xs = chkE n L (xs.drop i)) ∧ Hid (Below w.heap.size w wr)) (fun _ p10 _ => xs.length - (intOf p10).toNat)
  case atStart => exact ⟨0, -1, by omega, rfl, rfl, hid (by simp), hid (Below.refl _ _)⟩
  case round =>
    obtain ⟨i, L, hi, rfl, rfl, hE, hbw⟩ := hrel
    by_cases hlt : i < xs.length
    · have l1 : decide ((i : Int) < (xs.length : Int)) = true := decide_eq_true (by omega)
      have l2 : (i : Int) < (xs.length : Int) := by omega
      obtain ⟨x, hx⟩ : ∃ x, xs[i]? = some x := ⟨_, List.getElem?_eq_getElem hlt⟩
      have hdrop : xs.drop i = x :: xs.drop (i + 1) := by
        rw [List.drop_eq_getElem_cons hlt]
        have := (List.getElem?_eq_some_iff.1 hx).2
        rw [this]
      obtain ⟨gr, off, rfl, hgr, c0, c1, c2⟩ := (HR.out.later hbw.out).at hx
      have hE2 := hE.out
      rw [hdrop, chkE] at hE2
      obtain ⟨W4, hW4⟩ : ∃ W4, Hid (W4 = wr.alloc (.cells #[.int .i64 x.num, .int .i64 x.at_, .slice x.ao x.len x.cap] 51)) := ⟨_, hid rfl⟩
      have H1 := hid (has_any (w := wr.alloc (.cells #[.int .i64 x.num, .int .i64 x.at_, .slice x.ao x.len x.cap] 51)) (n := n) x.num (cell_under (ba wr _) (Nat.lt_of_lt_of_le hgw hbw.out.size) (cell_under hbw.out hgw HN.out)))
      have H2 := hid (isStamp_any (w := wr.alloc (.cells #[.int .i64 x.num, .int .i64 x.at_, .slice x.ao x.len x.cap] 51)) x.at_)
      have NB : Hid (Below w.heap.size w (wr.alloc (.cells #[.int .i64 x.num, .int .i64 x.at_, .slice x.ao x.len x.cap] 51))) := hid (belowT hbw.out (ba wr _))
      have hgr2 := hgr
      clear hE hdrop hx hW4
      by_cases b1 : 0 ≤ x.num ∧ x.num < n
      · rw [decide_eq_true b1] at H1
        by_cases b2 : x.num ≤ L
        · have d1 : decide (x.num ≤ L) = true := decide_eq_true b2
          have hv : Hid (chkE n (-1) xs = 64) := hid (by
            have : chk1 n L x = 64 := by unfold chk1; rw [if_neg (by simpa using b1), if_pos b2]
            rw [hE2, this]; rfl)
          clear hE2
          go_wp2_with (first | (go_at_call 33; refine H1.out.mono ?_; rintro e w' ⟨rfl, rfl⟩) | (go_at_call 34; refine H2.out.mono ?_; rintro e w' ⟨rfl, rfl⟩))
          go_ret
          exact ⟨by rw [hv.out]; rfl, NB.out⟩
        · have d1 : decide (x.num ≤ L) = false := decide_eq_false b2
          by_cases b3 : 1 ≤ x.at_ ∧ x.at_ ≤ 1099511627776
          · rw [decide_eq_true b3] at H2
            by_cases b4 : 2304 < x.len
            · have d4 : decide ((2304 : Int) < (x.len : Int)) = true := decide_eq_true (by omega)
              have d5 : (2304 : Int) < (x.len : Int) := by omega
              have hv : Hid (chkE n (-1) xs = 63) := hid (by
                have : chk1 n L x = 63 := by unfold chk1; rw [if_neg (by simpa using b1), if_neg b2, if_neg (by simpa using b3), if_pos b4]
                rw [hE2, this]; rfl)
              clear hE2
              go_wp2_with (first | (go_at_call 33; refine H1.out.mono ?_; rintro e w' ⟨rfl, rfl⟩) | (go_at_call 34; refine H2.out.mono ?_; rintro e w' ⟨rfl, rfl⟩))
              go_ret
              exact ⟨by rw [hv.out]; rfl, NB.out⟩
            · have d4 : decide ((2304 : Int) < (x.len : Int)) = false := decide_eq_false (by omega)
              have d5 : ¬ (2304 : Int) < (x.len : Int) := by omega
              have hv : Hid (chkE n (-1) xs = chkE n x.num (xs.drop (i + 1))) := hid (by
                have : chk1 n L x = 0 := by unfold chk1; rw [if_neg (by simpa using b1), if_neg b2, if_neg (by simpa using b3), if_neg b4]
                rw [hE2, this]; rfl)
              clear hE2
              go_wp2_with (first | (go_at_call 33; refine H1.out.mono ?_; rintro e w' ⟨rfl, rfl⟩) | (go_at_call 34; refine H2.out.mono ?_; rintro e w' ⟨rfl, rfl⟩))
              go_roundw
              case rel => exact ⟨i + 1, x.num, by omega, by go_num, rfl, hv, NB⟩
              case measure => simp [intOf]; omega
          · rw [decide_eq_false b3] at H2
            have hv : Hid (chkE n (-1) xs = 62) := hid (by
              have : chk1 n L x = 62 := by unfold chk1; rw [if_neg (by simpa using b1), if_neg b2, if_pos b3]
              rw [hE2, this]; rfl)
            clear hE2
            go_wp2_with (first | (go_at_call 33; refine H1.out.mono ?_; rintro e w' ⟨rfl, rfl⟩) | (go_at_call 34; refine H2.out.mono ?_; rintro e w' ⟨rfl, rfl⟩))
            go_ret
            exact ⟨by rw [hv.out]; rfl, NB.out⟩
      · rw [decide_eq_false b1] at H1
        have hv : Hid (chkE n (-1) xs = 61) := hid (by
          have : chk1 n L x = 61 := by unfold chk1; rw [if_pos b1]
          rw [hE2, this]; rfl)
        clear hE2
        go_wp2_with (first | (go_at_call 33; refine H1.out.mono ?_; rintro e w' ⟨rfl, rfl⟩) | (go_at_call 34; refine H2.out.mono ?_; rintro e w' ⟨rfl, rfl⟩))
        go_ret
        exact ⟨by rw [hv.out]; rfl, NB.out⟩
    · have l1 : decide ((i : Int) < (xs.length : Int)) = false := decide_eq_false (by omega)
      have l2 : ¬ (i : Int) < (xs.length : Int) := by omega
      have hv : Hid (chkE n (-1) xs = 0) := hid (by rw [hE.out, List.drop_of_length_le (by omega)]; rfl)
      clear hE
      go_wp2
      go_ret
      exact ⟨by rw [hv.out]; rfl, hbw.out⟩
end Go.Proofs.Ytaomhahmpbfjhaa

namespace Go.Proofs.Ytaomhahmpbfjhaa
open Go.RowKit
set_option linter.unusedVariables false

set_option maxRecDepth 1000000 in
/-- Apply, where the list is refused. -/
theorem Apply_bad {w : World} {g n lv : Nat} {ps : List Nat} {P : Pool} {cs : List Comp} {ao : Option Addr} {c : Nat} {xs : List Sh} (hA : All (poolC P :: blkC g (bookL n lv ps) 70 :: cs) w) (hR : ShR w ao xs) (hl : xs.length ≤ 1099511627776) (hE : chkE n (-1) xs ≠ 0) :
    Calls Try.prog 19 #[.pointer (some ⟨g, 0, none⟩), .slice ao xs.length c] w fun e w' => e = .returned (.int .i64 (chkE n (-1) xs)) ∧ Below w.heap.size w w' := by
  have hb : w.heap[g]? = some (.cells (bookL n lv ps).toArray 70 (0, 0)) := hA.tail.1.2.1
  have c0 : w.cell? ⟨g, 0, none⟩ = some (.int .i64 (n : Int)) := by rw [cell_at hb]; rfl
  have H1 := hid (check_any (c := c) c0 hR hl)
  obtain ⟨E, hEE⟩ : ∃ E, Hid (E = chkE n (-1) xs) := ⟨_, hid rfl⟩
  rw [← hEE.out] at H1 hE ⊢
  have d1 : decide (E = 0) = false := decide_eq_false hE
  clear hA hb hR
  go_enter Try.func19, Try.ntmps19
  go_wp2_with (go_at_call 46; refine H1.out.mono ?_; rintro e w' ⟨rfl, hb'⟩)
  go_ret
  exact ⟨rfl, hb'⟩
/-- A list that is taken is short. -/
theorem chk_short {n : Nat} : ∀ {xs : List Sh} {L : Int}, -1 ≤ L → chkE n L xs = 0 → L < n → (xs.length : Int) ≤ n - 1 - L
  | [], L, h0, _, h2 => by simp; omega
  | x :: r, L, h0, h, h2 => by
    rw [chkE] at h
    by_cases h1 : chk1 n L x = 0
    · rw [if_pos h1] at h
      have hb : (0 ≤ x.num ∧ x.num < n) ∧ L < x.num := by
        unfold chk1 at h1
        split at h1
        · cases h1
        · rename_i q1
          split at h1
          · cases h1
          · exact ⟨Classical.not_not.1 q1, by omega⟩
      have := chk_short (L := x.num) (by omega) h (by omega)
      simp only [List.length_cons]
      omega
    · rw [if_neg h1] at h
      exact absurd h h1
end Go.Proofs.Ytaomhahmpbfjhaa
