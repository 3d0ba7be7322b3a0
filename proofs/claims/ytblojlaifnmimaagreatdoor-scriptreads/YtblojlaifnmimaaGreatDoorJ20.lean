import Derived.Test.YtblojlaifnmimaaGreatDoorJ19
namespace Go.Proofs.YtblojlaifnmimaaGreatDoor
open Go.RowKit
set_option linter.unusedVariables false

theorem Bd.later {B : Nat} {l : List UInt8} {w w' : World} (h : Bd B l w) (hb : Below w.heap.size w w') : Bd B l w' := by
  have key : ∀ p, Lib.BuilderAt 60 5 B B p (cellsB l) w → Lib.BuilderAt 60 5 B B p (cellsB l) w' := by
    rintro p ⟨h1, v, h2, h3, h4⟩
    refine ⟨h1, v, ?_, ?_, h4⟩
    · rw [hb.block B (Array.getElem?_eq_some_iff.1 h2).1]; exact h2
    · refine ⟨h3.1, ?_⟩
      rcases h3.2 with hn | ⟨g, cap, cur, e1, e2, e3, e4⟩
      · exact Or.inl hn
      · exact Or.inr ⟨g, cap, cur, e1, e2, by rw [hb.block g (Array.getElem?_eq_some_iff.1 e3).1]; exact e3, e4⟩
  exact h.imp (key _) (key _)
theorem Bd.row {B : Nat} {l : List UInt8} {w : World} (h : Bd B l w) : ∃ a c, w.cell? ⟨B, 1, none⟩ = some (.slice a l.length c) := by
  have key : ∀ p, Lib.BuilderAt 60 5 B B p (cellsB l) w → ∃ a c, w.cell? ⟨B, 1, none⟩ = some (.slice a l.length c) := by
    rintro p ⟨h1, v, h2, h3, h4⟩
    obtain ⟨a, c, rfl⟩ := owns_form h3
    refine ⟨a, c, ?_⟩
    rw [cell_at h2, ← cellsB_length l]
    rfl
  exact h.elim (key _) (key _)
set_option maxRecDepth 1000000 in
theorem Len_any {B : Nat} {l : List UInt8} {w : World} (h : Bd B l w) : Calls Tryz.prog 28 #[ptr B] w fun e w' => e = .returned (.int .i64 (l.length : Int)) ∧ w' = w := by
  obtain ⟨a, c, y⟩ := h.row
  generalize l.length = n at *
  go_enter Tryz.func28, Tryz.ntmps28
  go_wp2
  go_ret
  exact ⟨rfl, rfl⟩
set_option maxHeartbeats 800000 in
set_option maxRecDepth 1000000 in
theorem writeLine_any {B : Nat} {l : List UInt8} {ws : Ws} {v : Value} {w : World} (h : Bd B l w) (hs : Rt w v ws) (hn : ws.length ≤ 1000) (hl : lenJ ws ≤ 1000000) (hll : l.length ≤ 1000000000) :
    Calls Tryz.prog 25 #[ptr B, v] w fun e w' => e = .returned (.tuple #[]) ∧ Bd B (l ++ lineP ws) w' ∧ Below B w w' := by
  have J := hid (Join_any hs (by omega) (by omega))
  have hj := joinW_len ws ws.length (Nat.le_refl _)
  rw [List.take_length] at hj
  obtain ⟨ao, c, rfl⟩ := hs.form
  have hBl := h.lt
  have W1 : Hid (∀ W, Below w.heap.size w W → Calls Tryz.prog 49 #[ptr B, .string ⟨(joinW ws).toArray⟩] W fun e w' => e = .returned (.tuple #[.int .i64 ((joinW ws).length : Int), .nilIface]) ∧ Bd B (l ++ joinW ws) w' ∧ Below B w w') := hid (fun W hb => (WriteString_any (h.later hb) (by omega)).mono fun e w' ⟨h1, h2, h3⟩ => ⟨h1, h2, (hb.mono (by omega)).trans h3⟩)
  have W2 : Hid (∀ W, Bd B (l ++ joinW ws) W → Below B w W → Calls Tryz.prog 49 #[ptr B, .string ⟨#[10]⟩] W fun e w' => e = .returned (.tuple #[.int .i64 1, .nilIface]) ∧ Bd B (l ++ lineP ws) w' ∧ Below B w w') := hid (fun W h hb => (WriteString_any (x := [10]) h (by rw [List.length_append]; simp; omega)).mono fun e w' ⟨h1, h2, h3⟩ => ⟨h1, by unfold lineP; rw [← List.append_assoc]; exact h2, hb.trans h3⟩)
  clear h hs hj hBl
  generalize hJJ : ByteArray.mk (joinW ws).toArray = X at *
  clear hJJ
  generalize ws.length = n at *
  go_enter Tryz.func25, Tryz.ntmps25
  go_wp2_with (go_at_call 50; refine J.out.mono ?_; rintro e w1 ⟨rfl, B1⟩; have Q1 := hid (W1.out w1 B1); clear B1; refine Hid.out ?_)
  refine hid ?_
  go_wp2_with (go_at_call 49; refine Q1.out.mono ?_; rintro e w2 ⟨rfl, A2, B2⟩; have Q2 := hid (W2.out w2 A2 B2); clear A2 B2; refine Hid.out ?_)
  refine hid ?_
  go_wp2_with (go_at_call 49; refine Q2.out.mono ?_; rintro e w3 ⟨rfl, A3, B3⟩; have K3 := hid A3; have L3 := hid B3; clear A3 B3)
  go_end0
  exact ⟨rfl, K3.out, L3.out⟩

theorem cfgL_nat {c : List Int} (hc : c.length = 10) (h : cfgL c = 0) : ∀ n ∈ c, 0 ≤ n ∧ n ≤ 1024 := by
  obtain ⟨a0, a1, a2, a3, a4, a5, a6, a7, a8, a9, rfl⟩ := ten hc
  unfold cfgL cfgE cfgOK at h
  simp only [List.getD_cons_zero, List.getD_cons_succ] at h
  split at h
  · rename_i hb
    simp only [Bool.and_eq_true, wi, decide_eq_true_eq, fl, Bool.or_eq_true, beq_iff_eq] at hb
    obtain ⟨⟨⟨⟨⟨⟨⟨⟨⟨h0, h1⟩, h2⟩, h3⟩, h4⟩, h5⟩, h6⟩, h8⟩, h7⟩, h9⟩ := hb
    have w1 : wrap64 (a2 + 1) = a2 + 1 := by unfold wrap64; omega
    have w2 : wrap64 (a8 - 1) = a8 - 1 := by unfold wrap64; omega
    rw [w1] at h4
    rw [w2] at h7
    intro n hn
    simp only [List.mem_cons, List.not_mem_nil, or_false] at hn
    rcases hn with rfl | rfl | rfl | rfl | rfl | rfl | rfl | rfl | rfl | rfl <;> omega
  · simp at h
theorem headWs_len {c : List Int} (hc : c.length = 10) : (headWs c).length = 11 := by simp [headWs, hc]
theorem dig_small {n : Int} (h0 : 0 ≤ n) (h : n ≤ 9223372036854775807) : (Lib.decDigits n.toNat).length ≤ 19 := digits_short (by omega)

set_option maxHeartbeats 1600000 in
set_option maxRecDepth 1000000 in
theorem headWords_any {c : List Int} {cs : List Comp} {w : World} (A : All cs w) (hV : ∀ W, All cs W → Vars W) (hc : c.length = 10) (hp : ∀ n ∈ c, 0 ≤ n ∧ n ≤ 1024) :
    Calls Tryz.prog 26 #[.agg (cI c).toArray] w fun e w' => ∃ v, e = .returned v ∧ All (ownC 9 v (txW (headWs c)) :: cs) w' := by
  have A0 := hid (A.addBlk (cI c) 24)
  have esz : (w.alloc (.cells (cI c).toArray 24)).heap.size = w.heap.size + 1 := by simp
  have A1 := hid (own_new A0.out [fleetW] (by simp))
  have M : Hid (∀ W, Calls Tryz.prog 51 #[ptr w.heap.size] W fun e w' => e = .returned (.agg (numsP w.heap.size).toArray) ∧ Below W.heap.size W w') := hid (fun W => numbers_any)
  rw [esz] at A1
  have IT : Hid (∀ i W ds, i < 10 → All ds W → (∀ W, All ds W → All cs W) → Calls Tryz.prog 52 #[.int .i64 (c.getD i 0)] W fun e w' => e = .returned (.string ⟨(Lib.decDigits (c.getD i 0).toNat).toArray⟩) ∧ All ds w') := hid (fun i W ds hi h hcs => by
    have hm : c.getD i 0 ∈ c := by
      rw [List.getD, List.getElem?_eq_getElem (by omega)]
      exact List.getElem_mem _
    have h1 := hp _ hm
    have := Itoa_any (v := c.getD i 0) (hV W (hcs W h)) h1.1 (by omega)
    refine this.mono fun e w' ⟨he, hb⟩ => ⟨?_, h.later hb⟩
    rw [he]
    unfold Lib.itoa
    rw [if_neg (by omega)])
  have CI : Hid (∀ i, i < 10 → (cI c)[i]? = some (.int .i64 (c.getD i 0))) := hid (fun i hi => by
    unfold cI
    rw [List.getElem?_map, List.getElem?_eq_getElem (by omega)]
    simp [List.getD, List.getElem?_eq_getElem (show i < c.length by omega)])
  have SN : Hid (∀ i, i < 10 → (fleetW :: (c.take (i + 1)).map fun n => Lib.decDigits n.toNat) = (fleetW :: (c.take i).map fun n => Lib.decDigits n.toNat) ++ [Lib.decDigits (c.getD i 0).toNat]) := hid (fun i hi => by
    have e : c.take (i + 1) = c.take i ++ [c.getD i 0] := by
      rw [List.take_add_one, List.getElem?_eq_getElem (by omega)]
      simp [List.getD, List.getElem?_eq_getElem (show i < c.length by omega)]
    rw [e, List.map_append]
    rfl)
  have LN : Hid (∀ i, i ≤ 10 → (fleetW :: (c.take i).map fun n => Lib.decDigits n.toNat).length = i + 1) := hid (fun i hi => by simp [hc]; omega)
  have E0 : Hid ([fleetW] = fleetW :: (c.take 0).map fun n => Lib.decDigits n.toNat) := hid (by simp)
  have EN : Hid (headWs c = fleetW :: (c.take 10).map fun n => Lib.decDigits n.toNat) := hid (by rw [List.take_of_length_le (by omega)]; rfl)
  generalize headWs c = HW at *
  clear A hV hp hc esz A0
  generalize hCC : cI c = CC at *
  clear hCC
  have ef : (txW [fleetW]).toArray = #[.string ⟨#[102, 108, 101, 101, 116]⟩] := rfl
  rw [ef] at A1
  go_enter Tryz.func26, Tryz.ntmps26
  go_wp2_with (go_at_call 51; refine (M.out _).mono ?_; rintro e w1 ⟨rfl, B1⟩; have K1 := hid (A1.out.later B1); clear B1)
  clear A1 M
  generalize w.heap.size + 1 = L0 at *
  generalize w.heap.size = C0 at *
  have IX := index_nums C0
  generalize hNP : numsP C0 = NP at *
  clear hNP
  go_loopw [3, 8] (fun lv iv wr => ∃ i : Nat, i ≤ 10 ∧ iv = .int .i64 (i : Int) ∧ Hid (All (ownC 9 lv (txW (fleetW :: (c.take i).map fun n => Lib.decDigits n.toNat)) :: blkC C0 CC 24 :: cs) wr)) (fun _ iv _ => 10 - (intOf iv).toNat)
  case atStart => exact ⟨0, by omega, rfl, by rw [← E0.out]; exact K1⟩
  case round =>
    obtain ⟨i, hi, rfl, HA⟩ := hrel
    clear K1
    by_cases hlt : i < 10
    · have hlt' : (i : Int) < 10 := by omega
      have ix := IX i hlt
      have y := (blk_at HA.out (.tail _ (.head _)) (CI.out i hlt)).1
      have Q := hid (IT.out i _ _ hlt HA.out (fun W h => h.tail.tail))
      have sn := hid (SN.out i hlt)
      have ln := LN.out i (by omega)
      obtain ⟨ao3, c3, hlv⟩ := own9 HA.out
      rw [ln] at hlv
      subst hlv
      generalize (fleetW :: (c.take i).map fun n => Lib.decDigits n.toNat) = WL at *
      generalize hDD : Lib.decDigits (c.getD i 0).toNat = DD at *
      clear hDD IX IT CI SN
      generalize hXD : ByteArray.mk DD.toArray = XD at *
      have HXD := hid hXD
      clear hXD
      generalize c.getD i 0 = ci at *
      go_wp2_with (go_at_call 52; refine Q.out.mono ?_; rintro e w2 ⟨rfl, A2⟩; have K2 := hid A2; clear A2; refine Hid.out ?_)
      refine hid ?_
      clear Q HA y
      obtain ⟨ao6, c6, w6, hr6, A6⟩ := app_txt K2.out DD (by rw [ln]; omega)
      rw [HXD.out, ln] at hr6
      have R6 := hid hr6
      rw [← sn.out] at A6
      have B6 := hid A6
      clear hr6 A6 K2
      go_wp2_with (at_builtin; refine wpList_append_run rfl _ _ 46 rfl _ _ _ _ rfl rfl R6.out ?_)
      go_roundw
      case rel => exact ⟨i + 1, by omega, by go_num, by rw [ln] at B6; exact B6⟩
      case measure => simp [intOf]; omega
    · have hlt' : ¬ (i : Int) < 10 := by omega
      have e10 : i = 10 := by omega
      subst e10
      rw [← EN.out] at HA
      go_wp2
      go_ret
      exact ⟨_, rfl, HA.out.del⟩
end Go.Proofs.YtblojlaifnmimaaGreatDoor

namespace Go.Proofs.YtblojlaifnmimaaGreatDoor
open Go.RowKit
set_option linter.unusedVariables false

theorem u79 {c : UInt8} : c = 79 ↔ c.toNat = 79 := ⟨fun h => by rw [h]; rfl, fun h => u8_eq (by rw [h]; rfl)⟩
def putS (s : Sp) (t : Sp) (c : UInt8) : Sp := if c = 79 then { t with o := s.o } else setS c.toNat (getS c.toNat s) t
theorem onlyS_snoc (s t : Sp) {lt : List UInt8} {p : Nat} (hp : p < lt.length) : onlyS (lt.take (p + 1)) s t = putS s (onlyS (lt.take p) s t) (lt.getD p 0) := by
  rw [take_snocB hp]
  unfold onlyS
  rw [List.foldl_append]
  rfl
theorem posS_snoc (s : Sp) {lt : List UInt8} {p : Nat} (hp : p < lt.length) : posS (lt.take (p + 1)) s = (posS (lt.take p) s && (decide (lt.getD p 0 = 79) || decide (0 ≤ getS (lt.getD p 0).toNat s))) := by
  rw [take_snocB hp]
  unfold posS
  rw [List.all_append]
  simp
theorem posS_neg (s : Sp) {lt : List UInt8} {p : Nat} (hp : p < lt.length) (h1 : lt.getD p 0 ≠ 79) (h2 : getS (lt.getD p 0).toNat s < 0) : posS lt s = false := by
  unfold posS
  rw [List.all_eq_false]
  refine ⟨lt.getD p 0, ?_, ?_⟩
  · rw [List.getD, List.getElem?_eq_getElem hp]; exact List.getElem_mem hp
  · rw [decide_eq_false h1, decide_eq_false (by omega)]; decide
theorem sp_range {B : Nat} {s : Sp} {cs : List Comp} {w : World} (h : All cs w) (hm : blkC B s.vals 43 ∈ cs) : w.rangeAt B 5 s.o.vals := fun j u hu => by
  have hb := (h.mem hm).2.1
  rw [cell_at hb, List.getElem?_toArray]
  have e : s.vals = [.int .i64 s.k, .int .i64 s.a, .int .i64 s.b, .int .i64 s.x, .int .i64 s.y] ++ s.o.vals := rfl
  rw [e, List.getElem?_append_right (by simp)]
  simpa using hu
theorem sp_there {B : Nat} {s : Sp} {cs : List Comp} {w : World} (h : All cs w) (hm : blkC B s.vals 43 ∈ cs) : w.there B 5 5 := fun j hj => by
  have hb := (h.mem hm).2.1
  refine ⟨?_, free_at hb _⟩
  rw [cell_at hb]
  obtain rfl | rfl | rfl | rfl | rfl : j = 0 ∨ j = 1 ∨ j = 2 ∨ j = 3 ∨ j = 4 := by omega
  all_goals rfl
theorem op_one (o : OpI) : o.vals.toArray.all (·.oneCell') = true := by simp [OpI.vals, Value.oneCell']

set_option maxHeartbeats 1600000 in
set_option maxRecDepth 1000000 in
theorem mayBe_any {s : Sp} {cs : List Comp} {w : World} (A : All cs w) (hS : ∀ W, All cs W → Sf W) :
    Calls Tryz.prog 53 #[.agg s.vals.toArray] w fun e w' => e = .returned (.bool (mayS s)) ∧ All cs w' := by
  have A0 := hid (A.addBlk s.vals 43)
  have y0 := (blk_at (j := 0) A0.out (.head _) rfl).1
  by_cases h1 : s.k < 1
  · have e1 : mayS s = false := by unfold mayS; rw [decide_eq_false (by omega)]; rfl
    rw [e1]
    clear e1 A hS
    generalize s.k = K at *
    generalize s.vals = SV at *
    go_enter Tryz.func53, Tryz.ntmps53
    go_wp2
    go_ret
    exact ⟨rfl, A0.out.tail⟩
  by_cases h2 : 13 < s.k
  · have e1 : mayS s = false := by unfold mayS; rw [decide_eq_false (by omega)]; rfl
    rw [e1]
    clear e1 A hS
    generalize s.k = K at *
    generalize s.vals = SV at *
    go_enter Tryz.func53, Tryz.ntmps53
    go_wp2
    go_ret
    exact ⟨rfl, A0.out.tail⟩
  obtain ⟨k, hk⟩ := Int.eq_ofNat_of_zero_le (show 0 ≤ s.k by omega)
  have e1 : mayS s = (posS (slN k) s && decide (onlyS (slN k) s ⟨(k : Int), 0, 0, 0, 0, .zero⟩ = s)) := by
    unfold mayS
    rw [decide_eq_true ⟨by omega, by omega⟩, hk, Int.toNat_natCast, Bool.true_and]
  rw [e1]
  have hk14 : (k : Int) < 14 := by omega
  have hk1 : ¬ (k : Int) < 1 := by omega
  have hk13 : ¬ (13 : Int) < (k : Int) := by omega
  have esz : (w.alloc (.cells s.vals.toArray 43)).heap.size = w.heap.size + 1 := by simp
  have A1 := hid (A0.out.addBlk (Sp.vals ⟨(k : Int), 0, 0, 0, 0, .zero⟩) 43)
  rw [esz] at A1
  have t1 := ((hS _ A1.out.tail.tail).2 k (by omega)).2
  have A2 := hid (A1.out.addIt ⟨(slN k).toArray⟩)
  have esz2 : ((w.alloc (.cells s.vals.toArray 43)).alloc (.cells (Sp.vals ⟨(k : Int), 0, 0, 0, 0, .zero⟩).toArray 43)).heap.size = w.heap.size + 1 + 1 := by simp
  rw [esz2] at A2
  have y0' := (blk_at (j := 0) A1.out (.tail _ (.head _)) rfl).1
  rw [hk] at y0 y0'
  have LT : Hid (∀ p, p < (slN k).length → ((slN k).getD p 0).toNat = 65 ∨ ((slN k).getD p 0).toNat = 75 ∨ ((slN k).getD p 0).toNat = 88 ∨ ((slN k).getD p 0).toNat = 89 ∨ ((slN k).getD p 0).toNat = 79) := hid (fun p hp => slN_in (by
    have : (slN k).getD p 0 = (slN k)[p] := by simp [List.getD, hp]
    rw [this]; exact List.getElem_mem hp))
  have es0 : (Sp.vals ⟨(k : Int), 0, 0, 0, 0, .zero⟩).toArray = #[.int .i64 (k : Int), .int .i64 0, .int .i64 0, .int .i64 0, .int .i64 0, .int .i64 0, .string ⟨#[]⟩, .string ⟨#[]⟩, .int .i64 0, .int .i64 0] := rfl
  have PS : Hid (posS ((slN k).take 0) s = true) := hid rfl
  obtain ⟨t0, ht0⟩ : ∃ t0 : Sp, t0 = ⟨(k : Int), 0, 0, 0, 0, .zero⟩ := ⟨_, rfl⟩
  rw [es0] at A2 t1 y0'
  rw [← ht0] at A2 ⊢
  clear ht0 A1 A0 A esz esz2 e1 hk h1 h2
  have ON : Hid (onlyS ((slN k).take 0) s t0 = t0) := hid rfl
  clear hS
  generalize slN k = lt at *
  generalize hXL : ByteArray.mk lt.toArray = XL at *
  have HXL := hid hXL
  clear hXL
  go_enter Tryz.func53, Tryz.ntmps53
  go_wp2_with fail
  clear t1 y0 y0' es0
  generalize w.heap.size + 1 + 1 = IT at *
  generalize w.heap.size + 1 = H at *
  generalize w.heap.size = S at *
  have I41 : Hid ((Tryz.prog.info? 41).map (·.size) = some s.o.vals.length) := hid Tryz.i41
  have J41 : Hid ((Tryz.prog.info? 41).map (·.size) = some s.o.vals.toArray.size) := hid Tryz.i41
  have O41 := hid (op_one s.o)
  have EO : s.o.vals.toArray.toList = s.o.vals := by simp
  go_loopw [5, 6] (fun u5 u6 wr => ∃ (p : Nat) (t : Sp), p ≤ lt.length ∧ Hid (posS (lt.take p) s = true) ∧ Hid (onlyS (lt.take p) s t0 = t) ∧ Hid (All (itC IT XL p :: blkC H t.vals 43 :: blkC S s.vals 43 :: cs) wr)) (fun _ _ wr => lt.length - wr.iterPos IT)
  case atStart => exact ⟨0, t0, Nat.zero_le _, PS, ON, A2⟩
  case round =>
    obtain ⟨p, t, hp, hPos, hOn, HA⟩ := hrel
    clear A2 PS ON
    by_cases hlt : p < lt.length
    · have hn := next_at (lt := lt) (p := p) (g := IT) (w := wr) (by rw [HXL.out]; exact HA.out) hlt (by have := LT.out p hlt; omega)
      rw [HXL.out] at hn
      have m0 : Hid (wr.iterPos IT = p) := hid (iterPos_of HA.out.1.2.1)
      have A3 := hid (HA.out.setIt (p + 1))
      have hc := hid (LT.out p hlt)
      have SN := hid (onlyS_snoc s t0 hlt)
      have PN := hid (posS_snoc s hlt)
      rw [hOn.out] at SN
      rw [hPos.out, Bool.true_and] at PN
      have NG : Hid (lt.getD p 0 ≠ 79 → getS (lt.getD p 0).toNat s < 0 → posS lt s = false) := hid (posS_neg s hlt)
      have U := hid (u79 (c := lt.getD p 0))
      clear HA
      generalize wr.iterAt IT XL (p + 1) = w3 at hn A3
      unfold putS at SN
      by_cases h79 : (lt.getD p 0).toNat = 79
      · have h79' : lt.getD p 0 = 79 := U.out.2 h79
        rw [if_pos h79'] at SN
        have PN : Hid (posS (lt.take (p + 1)) s = true) := hid (by rw [PN.out, decide_eq_true h79']; rfl)
        rw [h79] at hn
        have RG := hid (sp_range A3.out (.tail _ (.tail _ (.head _))))
        have TH : Hid (w3.there H 5 s.o.vals.toArray.size) := hid (sp_there A3.out (.tail _ (.head _)))
        have A4 := hid ((All.setMid s.o.vals _ 5 _ A3.out.swap).swap)
        have A5 : Hid (All (itC IT XL (p + 1) :: blkC H (Sp.vals { t with o := s.o }) 43 :: blkC S s.vals 43 :: cs) (w3.setCells H 5 s.o.vals)) := A4
        have m5 : Hid ((w3.setCells H 5 s.o.vals).iterPos IT = p + 1) := hid (iterPos_of A5.out.1.2.1)
        clear A3 A4 h79' h79 U NG hOn hPos hc
        generalize s.o.vals = OV at *
        go_wp2_with (first | (refine wpList_load_mid rfl 41 _ rfl S 5 rfl OV _ RG.out Tryz.underlying41 rfl I41.out ?_) | (refine wpList_store_mid rfl 41 _ _ rfl H 5 OV.toArray rfl rfl TH.out J41.out O41.out ?_; rw [EO]))
        go_roundw
        case rel => exact ⟨p + 1, hlt, PN, _, SN, A5⟩
        case measure => rw [m0.out, m5.out]; omega
      · have h79' : lt.getD p 0 ≠ 79 := fun e => h79 (U.out.1 e)
        have h79i : ¬ ((lt.getD p 0).toNat : Int) = 79 := by omega
        rw [if_neg h79'] at SN
        have NG := hid (NG.out h79')
        rw [decide_eq_false h79', Bool.false_or] at PN
        generalize hC : (lt.getD p 0).toNat = C at *
        clear hC
        obtain ⟨yS, _, _⟩ := blk_at A3.out (.tail _ (.tail _ (.head _))) (getS_vals C s)
        obtain ⟨yH, fH, _⟩ := blk_at A3.out (.tail _ (.head _)) (getS_vals C t)
        have A4 := hid ((A3.out.swap.setBlk (offS C) (.int .i64 (getS C s))).swap)
        rw [setS_vals] at A4
        have NB : Hid (∀ B W, Calls Tryz.prog 54 #[ptr B, .int .i32 (C : Int)] W fun e w' => e = .returned (.pointer (some ⟨B, offS C, none⟩)) ∧ w' = W) := hid (fun B W => number_any)
        by_cases hneg : getS C s < 0
        · have fin : Hid (posS lt s = false) := hid (NG.out hneg)
          clear A4 SN PN h79' h79 U hOn hPos hc NG
          generalize offS C = OF at *
          generalize getS C s = gs at *
          go_wp2_with (go_at_call 54; refine (NB.out _ _).mono ?_; rintro e w5 ⟨rfl, hw5⟩; subst w5)
          go_ret
          exact ⟨by rw [fin.out]; rfl, A3.out.tail.tail.tail⟩
        · have PN2 : Hid (posS (lt.take (p + 1)) s = true) := hid (by rw [PN.out]; exact decide_eq_true (by omega))
          clear PN
          have m5 : Hid ((w3.setCell ⟨H, offS C, none⟩ (.int .i64 (getS C s))).iterPos IT = p + 1) := hid (iterPos_of A4.out.1.2.1)
          have NX : Hid (∃ t', onlyS (lt.take (p + 1)) s t0 = t' ∧ All (itC IT XL (p + 1) :: blkC H t'.vals 43 :: blkC S s.vals 43 :: cs) (w3.setCell ⟨H, offS C, none⟩ (.int .i64 (getS C s)))) := hid ⟨_, SN.out, A4.out⟩
          clear A4 A3 SN h79' h79 U hOn hPos hc NG
          generalize offS C = OF at *
          generalize getS C s = gs at *
          generalize getS C t = gt at *
          go_wp2_with (go_at_call 54; refine (NB.out _ _).mono ?_; rintro e w5 ⟨rfl, hw5⟩; subst w5)
          obtain ⟨t', hs', A6⟩ := NX.out
          have hs6 := hid hs'
          have B6 := hid A6
          clear hs' A6
          go_roundw
          case rel => exact ⟨p + 1, t', hlt, PN2, hs6, B6⟩
          case measure => rw [m0.out, m5.out]; omega
    · have hn := next_end (lt := lt) (p := p) (g := IT) (w := wr) (by rw [HXL.out]; exact HA.out) hlt
      have ep : p = lt.length := by omega
      subst ep
      rw [List.take_length] at hPos hOn
      have HH := hid HA.out.tail.1.2.1
      have HS := hid HA.out.tail.tail.1.2.1
      have EQ := eq43 t s
      have IT' : Hid ((Tryz.prog.info? 43).map (·.size) = some t.vals.toArray.size) := hid Tryz.i43
      have IS' : Hid ((Tryz.prog.info? 43).map (·.size) = some s.vals.toArray.size) := hid Tryz.i43
      have fin : Hid ((posS lt s && decide (onlyS lt s t0 = s)) = decide (t = s)) := hid (by rw [hPos.out, Bool.true_and, hOn.out])
      clear hPos hOn I41 J41 O41 EO
      generalize hD : decide (t = s) = DD at *
      clear hD
      generalize t.vals = TV at *
      generalize s.vals = SV at *
      go_wp2_with (first | (refine wpList_load_row rfl 43 _ rfl H rfl 43 TV.toArray (0, 0) _ HH.out Tryz.underlying43 rfl IT'.out ?_) | (refine wpList_load_row rfl 43 _ rfl S rfl 43 SV.toArray (0, 0) _ HS.out Tryz.underlying43 rfl IS'.out ?_))
      go_ret
      exact ⟨by rw [fin.out]; rfl, HA.out.tail.tail.tail⟩
end Go.Proofs.YtblojlaifnmimaaGreatDoor

namespace Go.Proofs.YtblojlaifnmimaaGreatDoor
open Go.RowKit
set_option linter.unusedVariables false

/-- A step's numbers are numbers of the machine. -/
def spI (s : Sp) : Prop := s.a ≤ 9223372036854775807 ∧ s.b ≤ 9223372036854775807 ∧ s.x ≤ 9223372036854775807 ∧ s.y ≤ 9223372036854775807
theorem spI.get {s : Sp} (h : spI s) (c : Nat) : getS c s ≤ 9223372036854775807 := by
  unfold getS
  obtain ⟨h1, h2, h3, h4⟩ := h
  split
  · exact h1
  · split
    · exact h2
    · split
      · exact h3
      · exact h4
theorem pos_at {s : Sp} {lt : List UInt8} (h : posS lt s = true) {p : Nat} (hp : p < lt.length) (hc : lt.getD p 0 ≠ 79) : 0 ≤ getS (lt.getD p 0).toNat s := by
  apply Classical.byContradiction
  intro hn
  rw [posS_neg s hp hc (by omega)] at h
  simp at h
theorem mayS_true {s : Sp} (h : mayS s = true) : 1 ≤ s.k ∧ s.k ≤ 13 ∧ posS (slN s.k.toNat) s = true := by
  unfold mayS at h
  simp only [Bool.and_eq_true, decide_eq_true_eq] at h
  exact ⟨h.1.1.1, h.1.1.2, h.1.2⟩
/-- The words of a step's first letters. -/
def wsS (s : Sp) (k : Nat) (lt : List UInt8) : Ws := snN k :: lt.flatMap (fieldS s)
theorem wsS_snoc (s : Sp) (k : Nat) {lt : List UInt8} {p : Nat} (hp : p < lt.length) : wsS s k (lt.take (p + 1)) = wsS s k (lt.take p) ++ fieldS s (lt.getD p 0) := by
  rw [take_snocB hp]
  simp [wsS]
theorem fieldS_len (s : Sp) (c : UInt8) : (fieldS s c).length ≤ 4 := by
  unfold fieldS
  split
  · exact opA_len _ _ _ _ _
  · simp
theorem wsS_len (s : Sp) (k : Nat) : ∀ lt : List UInt8, (wsS s k lt).length ≤ 1 + 4 * lt.length
  | [] => by simp [wsS]
  | c :: r => by
    have h1 := wsS_len s k r
    have h2 := fieldS_len s c
    simp only [wsS, List.flatMap_cons, List.length_cons, List.length_append] at *
    omega
theorem perm4b {α : Type} (a b c d : α) (cs : List α) : (a :: b :: c :: d :: cs).Perm (d :: a :: b :: c :: cs) := perm4 a b c d cs

set_option maxHeartbeats 3200000 in
set_option maxRecDepth 1000000 in
theorem stepWords_any {s : Sp} {cs : List Comp} {w : World} (A : All cs w) (hE : ∀ W, All cs W → En W) (hI : spI s) :
    Calls Tryz.prog 27 #[.agg s.vals.toArray] w fun e w' => ∃ v, e = .returned (.tuple #[v, .int .i64 (stepE s)]) ∧ All (ownC 9 v (txW (stepWs s)) :: cs) w' := by
  have A0 := hid (A.addBlk s.vals 43)
  have M := hid (mayBe_any (s := s) A0.out (fun W h => (hE W h.tail).s))
  have H0 := hid A0.out.1.2.1
  have IS : Hid ((Tryz.prog.info? 43).map (·.size) = some s.vals.toArray.size) := hid Tryz.i43
  cases hm : mayS s with
  | false =>
    have e1 : stepE s = 171 := by unfold stepE; rw [if_pos hm]
    have e2 : stepWs s = [] := by unfold stepWs; rw [e1]; rfl
    rw [e1, e2]
    rw [hm] at M
    clear e1 e2 hm A hE hI
    generalize s.vals = SV at *
    go_enter Tryz.func27, Tryz.ntmps27
    go_wp2_with (first | (refine wpList_load_row rfl 43 _ rfl w.heap.size rfl 43 SV.toArray (0, 0) _ H0.out Tryz.underlying43 rfl IS.out ?_) | (go_at_call 53; refine M.out.mono ?_; rintro e w1 ⟨rfl, A1⟩; have K1 := hid A1; clear A1))
    go_ret2
    exact ⟨_, rfl, All.addNil K1.out.tail⟩
  | true =>
    rw [hm] at M
    obtain ⟨h1, h13, hpos⟩ := mayS_true hm
    obtain ⟨k, hk⟩ := Int.eq_ofNat_of_zero_le (show 0 ≤ s.k by omega)
    have eE : stepE s = if 79 ∈ slN k then opE s.o else 0 := by unfold stepE; rw [if_neg (by rw [hm]; decide), hk, Int.toNat_natCast]
    have eW : stepWs s = if stepE s ≠ 0 then [] else wsS s k (slN k) := by unfold stepWs wsS; rw [hk, Int.toNat_natCast]
    rw [hk, Int.toNat_natCast] at hpos
    have hk14 : (k : Int) < 14 := by omega
    have LT : Hid (∀ p, p < (slN k).length → ((slN k).getD p 0).toNat = 65 ∨ ((slN k).getD p 0).toNat = 75 ∨ ((slN k).getD p 0).toNat = 88 ∨ ((slN k).getD p 0).toNat = 89 ∨ ((slN k).getD p 0).toNat = 79) := hid (fun p hp => slN_in (by
      have : (slN k).getD p 0 = (slN k)[p] := by simp [List.getD, hp]
      rw [this]; exact List.getElem_mem hp))
    have TC : Hid (∀ W, All cs W → W.cell? ⟨0, k * 2, none⟩ = some (.string ⟨(snN k).toArray⟩) ∧ W.cell? ⟨0, k * 2 + 1, none⟩ = some (.string ⟨(slN k).toArray⟩)) := hid (fun W h => (hE W h).s.2 k (by omega))
    have L3 := hid (slN_len k)
    have SN : Hid (∀ p, p < (slN k).length → wsS s k ((slN k).take (p + 1)) = wsS s k ((slN k).take p) ++ fieldS s ((slN k).getD p 0)) := hid (fun p hp => wsS_snoc s k hp)
    have WL : Hid (∀ p, p ≤ (slN k).length → (wsS s k ((slN k).take p)).length ≤ 13) := hid (fun p hp => by
      have h1 := wsS_len s k ((slN k).take p)
      rw [List.length_take] at h1
      have := L3.out
      omega)
    have IO : Hid (∀ (c : Nat) W ds, 0 ≤ getS c s → All ds W → (∀ W, All ds W → All cs W) → Calls Tryz.prog 52 #[.int .i64 (getS c s)] W fun e w' => e = .returned (.string ⟨(Lib.decDigits (getS c s).toNat).toArray⟩) ∧ All ds w') := hid (fun c W ds h0 h hcs => by
      have := Itoa_any (v := getS c s) (hE W (hcs W h)).v h0 (hI.get c)
      refine this.mono fun e w' ⟨he, hb⟩ => ⟨?_, h.later hb⟩
      rw [he]
      unfold Lib.itoa
      rw [if_neg (by omega)])
    have PA : Hid (∀ p, p < (slN k).length → (slN k).getD p 0 ≠ 79 → 0 ≤ getS ((slN k).getD p 0).toNat s) := hid (fun p hp hc => pos_at hpos hp hc)
    have OP : Hid (∀ W ds, All ds W → (∀ W, All ds W → All cs W) → Calls Tryz.prog 55 #[.agg s.o.vals.toArray] W fun e w' => ∃ v, e = .returned (.tuple #[v, .int .i64 (opE s.o)]) ∧ All (ownC 9 v (txW (opWs s.o)) :: ds) w') := hid (fun W ds h hcs => Op_any h (fun W h => (hE W (hcs W h)).v) (fun W h => (hE W (hcs W h)).t) (fun W h => (hE W (hcs W h)).f))
    have MB : Hid (∀ p, p < (slN k).length → (slN k).getD p 0 = 79 → 79 ∈ slN k) := hid (fun p hp h => by
      rw [← h, List.getD, List.getElem?_eq_getElem hp]; exact List.getElem_mem hp)
    have MT : Hid (∀ p, p < (slN k).length → 79 ∈ (slN k).take (p + 1) → 79 ∈ (slN k).take p ∨ (slN k).getD p 0 = 79) := hid (fun p hp h => by
      rw [take_snocB hp] at h
      rcases List.mem_append.1 h with h | h
      · exact Or.inl h
      · exact Or.inr (by simp only [List.mem_cons, List.not_mem_nil, or_false] at h; exact h.symm))
    have EE := hid eE
    have EW := hid eW
    have e0 : s.vals[0]? = some (.int .i64 (k : Int)) := by rw [← hk]; rfl
    have E0 := hid e0
    have hk1 : (1 : Int) ≤ k := by omega
    clear eE eW hm A hE hI h13 h1 hk hpos e0
    generalize stepE s = SE at *
    generalize stepWs s = SW at *
    have LX : Hid (slN k = slN k) := hid rfl
    generalize slN k = lt at *
    generalize hXL : ByteArray.mk lt.toArray = XL at *
    have HXL := hid hXL
    clear hXL
    have TX : Hid ([snN k] = wsS s k (lt.take 0)) := hid rfl
    generalize hXN : ByteArray.mk (snN k).toArray = XN at *
    have HXN := hid hXN
    clear hXN
    go_enter Tryz.func27, Tryz.ntmps27
    go_upto_region 3 with (first | (refine wpList_load_row rfl 43 _ rfl w.heap.size rfl 43 s.vals.toArray (0, 0) _ H0.out Tryz.underlying43 rfl IS.out ?_) | (go_at_call 53; refine M.out.mono ?_; rintro e w1 ⟨rfl, A1⟩; have K1 := hid A1; clear A1))
    clear A0 H0 M
    generalize w.heap.size = S at *
    have y0 := (blk_at K1.out (.head _) E0.out).1
    obtain ⟨t0, t1⟩ := TC.out w1 K1.out.tail
    have K2 := hid (K1.out.addBlk [.string XN, .string XL] 98)
    have K3 := hid (own_new K2.out [snN k] (by simp))
    have e3 : (txW [snN k]).toArray = #[.string XN] := by rw [← HXN.out]; rfl
    have esz : (w1.alloc (.cells #[.string XN, .string XL] 98)).heap.size = w1.heap.size + 1 := by simp
    rw [show ([.string XN, .string XL] : List Value).toArray = #[.string XN, .string XL] from rfl, esz, e3, TX.out] at K3
    have esz2 : ((w1.alloc (.cells #[.string XN, .string XL] 98)).alloc (.cells #[.string XN] 9)).heap.size = w1.heap.size + 1 + 1 := by simp
    have K4 := hid (K3.out.addIt XL)
    rw [esz2] at K4
    clear esz esz2 e3 K3 K2 K1 TC TX
    go_wp2_with fail
    clear t0 t1 y0 LX
    generalize w1.heap.size + 1 + 1 = IT at *
    generalize w1.heap.size = F at *
    have I41 : Hid ((Tryz.prog.info? 41).map (·.size) = some s.o.vals.length) := hid Tryz.i41
    have NB : Hid (∀ (C B : Nat) W, Calls Tryz.prog 54 #[ptr B, .int .i32 (C : Int)] W fun e w' => e = .returned (.pointer (some ⟨B, offS C, none⟩)) ∧ w' = W) := hid (fun C B W => number_any)
    go_loopw [5, 7, 8, 9] (fun lv u7 u8 u9 wr => ∃ p : Nat, p ≤ lt.length ∧ Hid (79 ∈ lt.take p → opE s.o = 0) ∧ Hid (All (itC IT XL p :: ownC 9 lv (txW (wsS s k (lt.take p))) :: blkC F [.string XN, .string XL] 98 :: blkC S s.vals 43 :: cs) wr)) (fun _ _ _ _ wr => lt.length - wr.iterPos IT)
    case atStart => exact ⟨0, Nat.zero_le _, hid (fun h => by simp at h), K4⟩
    case round =>
      obtain ⟨p, hp, hOp, HA⟩ := hrel
      clear K4
      by_cases hlt : p < lt.length
      · have hn := next_at (lt := lt) (p := p) (g := IT) (w := wr) (by rw [HXL.out]; exact HA.out) hlt (by have := LT.out p hlt; omega)
        rw [HXL.out] at hn
        have m0 : Hid (wr.iterPos IT = p) := hid (iterPos_of HA.out.1.2.1)
        have A3 := hid ((HA.out.setIt (p + 1)).swap)
        have sn := hid (SN.out p hlt)
        have wl := hid (WL.out p hp)
        have pa := hid (PA.out p hlt)
        have mb := hid (MB.out p hlt)
        have mt := hid (MT.out p hlt)
        have U := hid (u79 (c := lt.getD p 0))
        clear HA LT SN WL PA MB MT
        obtain ⟨ao3, c3, rfl⟩ := own9 A3.out
        generalize wr.iterAt IT XL (p + 1) = w3 at hn A3
        by_cases h79 : (lt.getD p 0).toNat = 79
        · have h79' : lt.getD p 0 = 79 := U.out.2 h79
          have RG := hid (sp_range A3.out (.tail _ (.tail _ (.tail _ (.head _)))))
          have Q := hid (OP.out _ _ A3.out (fun W h => h.tail.tail.tail.tail))
          rw [h79] at hn
          have fs : fieldS s (lt.getD p 0) = opWs s.o := by unfold fieldS; rw [if_pos h79']
          rw [fs] at sn
          have hin := mb.out h79'
          clear h79' h79 U pa mb fs
          by_cases hE : opE s.o ≠ 0
          · have hE' : (opE s.o != 0) = true := by simpa using hE
            have e1 : Hid (SE = opE s.o) := hid (by rw [EE.out, if_pos hin])
            have e2 : Hid (SW = []) := hid (by rw [EW.out, e1.out, if_pos hE])
            clear hE hin EE EW
            generalize opE s.o = OE at *
            generalize s.o.vals = OV at *
            generalize opWs s.o = OW at *
            generalize hwl : (wsS s k (lt.take p)).length = nw at *
            clear hwl
            go_wp2_with (first | (refine wpList_load_mid rfl 41 _ rfl S 5 rfl OV _ RG.out Tryz.underlying41 rfl I41.out ?_) | (go_at_call 55; refine Q.out.mono ?_; rintro e w4 ⟨v4, rfl, A4⟩; have K4 := hid A4; clear A4))
            go_ret2
            exact ⟨_, by rw [e1.out]; rfl, by rw [e2.out]; exact All.addNil K4.out.tail.tail.tail.tail.tail⟩
          · have hE0 : opE s.o = 0 := Classical.byContradiction hE
            rw [hE0] at Q
            have nOp : Hid (79 ∈ lt.take (p + 1) → opE s.o = 0) := hid (fun _ => hE0)
            have ol : Hid ((opWs s.o).length ≤ 4) := hid (opA_len _ _ _ _ _)
            have AP : Hid (∀ v4 W, All (ownC 9 v4 (txW (opWs s.o)) :: ownC 9 (.slice ao3 (wsS s k (lt.take p)).length c3) (txW (wsS s k (lt.take p))) :: itC IT XL (p + 1) :: blkC F [.string XN, .string XL] 98 :: blkC S s.vals 43 :: cs) W → ∃ v5 w5, (Builtin.append_ #[46, 46] 46 #[.slice ao3 (wsS s k (lt.take p)).length c3, v4]).run Tryz.prog W = .ok v5 w5 ∧ All (itC IT XL (p + 1) :: ownC 9 v5 (txW (wsS s k (lt.take (p + 1)))) :: blkC F [.string XN, .string XL] 98 :: blkC S s.vals 43 :: cs) w5) := hid (fun v4 W h => by
              obtain ⟨a5, c5, w5, hr, A5⟩ := appR h.swap (rt_own h) (by have := ol.out; have := wl.out; omega)
              rw [← sn.out] at A5
              exact ⟨_, w5, hr, A5.del.swap⟩)
            clear hE hE0 hin A3 OP IO
            generalize s.o.vals = OV at *
            generalize opWs s.o = OW at *
            generalize hwl : (wsS s k (lt.take p)).length = nw at *
            clear hwl
            go_wp2_with (first | (refine wpList_load_mid rfl 41 _ rfl S 5 rfl OV _ RG.out Tryz.underlying41 rfl I41.out ?_) | (go_at_call 55; refine Q.out.mono ?_; rintro e w4 ⟨v4, rfl, A4⟩; have ap := AP.out v4 w4 A4; clear A4; obtain ⟨v5, w5, hr5, A5⟩ := ap; have R5 := hid hr5; have K5 := hid A5; clear hr5 A5) | (at_builtin; refine wpList_append_run rfl _ _ 46 rfl _ _ _ _ rfl rfl R5.out ?_))
            have m5 : Hid (w5.iterPos IT = p + 1) := hid (iterPos_of K5.out.1.2.1)
            go_roundw
            case rel => exact ⟨p + 1, hlt, nOp, K5⟩
            case measure => rw [m0.out, m5.out]; omega
        · have h79' : lt.getD p 0 ≠ 79 := fun e => h79 (U.out.1 e)
          have h79i : ¬ ((lt.getD p 0).toNat : Int) = 79 := by omega
          have h79b : (((lt.getD p 0).toNat : Int) != 79) = true := by simpa using h79i
          have g0 := pa.out h79'
          have fs : fieldS s (lt.getD p 0) = [Lib.decDigits (getS (lt.getD p 0).toNat s).toNat] := by unfold fieldS; rw [if_neg h79']
          rw [fs] at sn
          have nOp : Hid (79 ∈ lt.take (p + 1) → opE s.o = 0) := hid (fun h => hOp.out ((mt.out h).resolve_right h79'))
          have Q := hid (IO.out (lt.getD p 0).toNat _ _ g0 A3.out (fun W h => h.tail.tail.tail.tail))
          clear h79' h79 U pa mb fs hOp mt g0 IO OP
          generalize hC : (lt.getD p 0).toNat = C at *
          clear hC
          have nb := hid (fun B W => NB.out C B W)
          obtain ⟨yS, _, _⟩ := blk_at A3.out (.tail _ (.tail _ (.tail _ (.head _)))) (getS_vals C s)
          generalize offS C = OF at *
          generalize hDD : Lib.decDigits (getS C s).toNat = DD at *
          clear hDD
          generalize getS C s = gs at *
          generalize hXD : ByteArray.mk DD.toArray = XD at *
          have HXD := hid hXD
          clear hXD
          generalize hwl : (wsS s k (lt.take p)).length = nw at *
          have HW := hid hwl
          clear hwl
          go_wp2_with (first | (go_at_call 54; refine (nb.out _ _).mono ?_; rintro e w5 ⟨rfl, hw5⟩; subst w5) | (go_at_call 52; refine Q.out.mono ?_; rintro e w4 ⟨rfl, A4⟩; have K4 := hid A4; clear A4; refine Hid.out ?_))
          refine hid ?_
          clear Q A3 yS hn
          obtain ⟨ao6, c6, w6, hr6, A6⟩ := app_txt K4.out DD (by rw [HW.out]; have := wl.out; omega)
          rw [HXD.out, HW.out] at hr6
          have R6 := hid hr6
          rw [← sn.out, HW.out] at A6
          have B6 := hid A6.swap
          have m6 : Hid (w6.iterPos IT = p + 1) := hid (iterPos_of A6.swap.1.2.1)
          clear hr6 A6 K4
          go_wp2_with (at_builtin; refine wpList_append_run rfl _ _ 46 rfl _ _ _ _ rfl rfl R6.out ?_)
          go_roundw
          case rel => exact ⟨p + 1, hlt, nOp, B6⟩
          case measure => rw [m0.out, m6.out]; omega
      · have hn := next_end (lt := lt) (p := p) (g := IT) (w := wr) (by rw [HXL.out]; exact HA.out) hlt
        have ep : p = lt.length := by omega
        subst ep
        rw [List.take_length] at hOp HA
        have e1 : Hid (SE = 0) := hid (by
          rw [EE.out]
          by_cases h : 79 ∈ lt
          · rw [if_pos h]; exact hOp.out h
          · rw [if_neg h])
        have e2 : Hid (SW = wsS s k lt) := hid (by rw [EW.out, e1.out]; rfl)
        clear EE EW hOp LT SN WL PA MB MT
        go_wp2
        go_ret2
        exact ⟨_, by rw [e1.out]; rfl, by rw [e2.out]; exact HA.out.tail.del.del⟩
end Go.Proofs.YtblojlaifnmimaaGreatDoor
