import Derived.Test.YtaomhahmpbfjhaaPairN
namespace Go.Proofs.Ytaomhahmpbfjhaa
open Go.RowKit
set_option linter.unusedVariables false
attribute [local go_sem] run_store_func Oper.semAt_some

theorem other_set (w : World) {g k : Nat} (j : Nat) (u : Value) (h : k ≠ g) : (w.setCell ⟨g, j, none⟩ u).heap[k]? = w.heap[k]? := Below.heap_setCell w ⟨g, j, none⟩ u k h

/-- What holds of the operations of a comparison of one sheet that have come. -/
def Inv18 (pre suf : List Value) (vi vw vl vx vn vi1 vs : Value) (W : World) (X : Obj) (G : Nat → Bool) (ac : Act) (w : World) : Prop :=
  ∃ t0 t1 t2 t3 t4 t5 t6 t7 t8 t9 t10 t11 t12 t13 t14 : Value, ac = { tmps := (pre ++ [t0, t1, t2, t3, t4, t5, t6, t7, t8, t9, t10, t11, t12, t13, t14] ++ suf).toArray, defers := [] } ∧ (G 0 = true → t0 = vi) ∧ (G 1 = true → t1 = vw) ∧ (G 2 = true → t2 = vl) ∧ (G 3 = true → t3 = .bool false) ∧ (G 4 = true → t4 = .bool false) ∧ (G 5 = true → t5 = vx) ∧ (G 6 = true → t6 = vn) ∧ (G 7 = true → t7 = vw) ∧ (G 8 = true → t8 = vi) ∧ (G 9 = true → t9 = vi) ∧ (G 10 = true → t10 = vi1) ∧ (G 11 = true → t11 = vs) ∧ (G 12 = true → t12 = .bool true) ∧ (G 13 = true → t13 = .bool false) ∧ (G 14 = true → t14 = .bool false) ∧ (G 6 = false → w = W.drew) ∧ (G 6 = true → G 12 = false → w = W.drew.alloc X) ∧ (G 12 = true → ∃ q, w = (W.drew.alloc X).drewN q) ∧ (G 12 = true → G 6 = true ∧ G 11 = true) ∧ (G 11 = true → G 7 = true ∧ G 8 = true ∧ G 10 = true) ∧ (G 10 = true → G 9 = true) ∧ (G 6 = true → G 5 = true) ∧ (G 5 = true → G 4 = true) ∧ (G 4 = true → G 3 = true) ∧ (G 3 = true → G 0 = true ∧ G 2 = true) ∧ (G 2 = true → G 1 = true) ∧ (G 14 = true → G 12 = true) ∧ (G 13 = true → G 12 = true)

theorem wpOpIn_ofG {F : Fence} {n : Nat} {P : Program} {ops : Array Oper} {Q : Exit → Act → World → Prop} {K : Act → World → Prop} {i : Nat} {o : Oper} {a : Act} {w : World} (ho : ops[i]? = some o) (h : wpListIn F n P ops (QK Q K) [o] a w) : wpOpIn F n P ops Q i K a w := by
  unfold wpOpIn
  rw [ho]
  simp only [wpListIn] at h ⊢
  split
  · rename_i hw
    rw [if_pos hw] at h
    unfold Oper.wpIn at h ⊢
    refine ⟨h.1, ?_⟩
    have h2 := h.2
    generalize (o.semAt F.round a.eval).run P w = r at *
    cases r with
    | ok y w' =>
      cases y <;> simp only [Oper.uponIn] at h2 ⊢ <;> first
        | exact h2
        | exact ⟨h2.1, h2.2.mono (fun e w'' he => by cases e <;> exact he)⟩
        | exact ⟨h2.1, h2.2⟩
    | halt y w' => cases y <;> simp only [Oper.uponIn] at h2 ⊢ <;> exact h2
  · rename_i hw
    rw [if_neg hw] at h
    exact h

theorem res4 {tmps : Array Value} {w : World} {b : Nat} {v : Bool} (ht : tmps.getD 8 undef = .pointer (some ⟨b, 0, none⟩)) (hc : w.cell? ⟨b, 0, none⟩ = some (.bool v)) : (results Try.f4 tmps).run Try.prog w = .ok (.bool v) w := by
  have hp' : tmps[8]?.getD undef = .pointer (some ⟨b, 0, none⟩) := by simpa using ht
  have hres : Try.f4.results = #[.cell 8 4] := rfl
  simp only [results, hres]
  go_simp

theorem Pair.sub {Q0 : Pool} {g R n : Nat} {r1 r2 : List Comp} {S : Sheets} {W : World} (h : Pair Q0 g R n r1 S W) (hs : r2.Sublist r1) : Pair Q0 g R n r2 S W := by
  obtain ⟨Q, lv, ps, N, v, rs, A, BB, C, D⟩ := h
  exact ⟨Q, lv, ps, N, v, rs, A.sublist (.cons_cons _ (.cons_cons _ (.append (.refl _) hs))), BB, C, D⟩
theorem Pair.weak {Q0 Q1 : Pool} {g R n : Nat} {r : List Comp} {S : Sheets} {W : World} (h : Pair Q0 g R n r S W) (hs : ∀ x ∈ Q1, x ∈ Q0) : Pair Q1 g R n r S W := by
  obtain ⟨Q, lv, ps, N, v, rs, A, BB, C, D⟩ := h
  exact ⟨Q, lv, ps, N, v, rs, A, BB, C, fun x hx => D x (hs x hx)⟩
theorem perm3 (X L P r : List Comp) : (X ++ (L ++ (P ++ r))).Perm (P ++ (L ++ (X ++ r))) :=
  (List.Perm.append_left X (List.perm_append_comm_assoc L P r)).trans ((List.perm_append_comm_assoc X P (L ++ r)).trans (List.Perm.append_left P (List.perm_append_comm_assoc X L r)))

set_option maxRecDepth 100000 in
set_option maxHeartbeats 40000000 in
theorem range_walk {w : World} {n : Int} {v u : Value} {xs zs : List Ac} {at_ : Int} (hx : ActsAt w v xs) (hz : ActsAt w u zs) (hlen : xs.length ≤ maxLen) (hlen2 : zs.length ≤ maxLen) : Calls Try.prog 4 #[.int .i64 n, v, u, .int .i64 at_] w fun e w' => e = .returned (.bool true) ∧ Below w.heap.size w w' := by
  obtain ⟨ao, c, rfl⟩ := hx.form
  obtain ⟨ao2, c2, rfl⟩ := hz.form
  by_cases hb : n < 1 ∨ n > 64
  · exact range_bad hb
  obtain ⟨m, rfl⟩ : ∃ m : Nat, n = m := ⟨n.toNat, by omega⟩
  have hm1 : 1 ≤ m := by omega
  have hm2 : m ≤ 64 := by omega
  have A3 := (((All.came w).addBlk [.slice ao2 zs.length c2] 22).addBlk [.int .i64 at_] 3).addBlk [.bool false] 4
  simp only [World.size_alloc] at A3
  have H := hid (New_all A3.pool0 hm1 hm2)
  have HX := hid hx
  have HL := hid hlen
  have HZ := hid hz
  have HL2 := hid hlen2
  have HM := hid (show 1 ≤ m ∧ m ≤ 64 from ⟨hm1, hm2⟩)
  obtain ⟨xl, hxl⟩ : ∃ xl, Hid (xl = xs.length) := ⟨_, hid rfl⟩
  obtain ⟨zl, hzl⟩ : ∃ zl, Hid (zl = zs.length) := ⟨_, hid rfl⟩
  rw [← hzl.out] at H
  rw [← hxl.out, ← hzl.out]
  clear hx hlen hz hlen2 hb hm1 hm2 A3
  refine (callsIn_wide (n := 20)).1 ?_
  refine callsIn_of_wp_marks Try.func4 rfl trivial ?_ rfl
  simp only [Try.ntmps4, List.size_toArray, List.length_cons, List.length_nil, Nat.reduceAdd, Nat.reduceSub, Array.replicate_succ, Array.replicate_zero, List.push_toArray, List.append_toArray, List.nil_append, List.cons_append]
  gi_wp2
  refine ⟨trivial, (callsIn_wide.2 H.out).mono ?_⟩
  rintro e w1 ⟨g, rfl, Q, lv, ps, N, A1, B1, _⟩
  have RN := hid (rNew_all (A1.addBlk [.pointer (some ⟨g, 0, none⟩)] 23) HM.out.1 HM.out.2)
  have RN : Hid (Calls Try.prog 8 #[.int .i64 (m : Int)] (w1.alloc (.cells #[.pointer (some ⟨g, 0, none⟩)] 23)) fun e w2 => ∃ R, e = .returned (.tuple #[.pointer (some ⟨R, 0, none⟩), .int .i64 0]) ∧ Hid (Pair [] g R m [blkC w1.heap.size [.pointer (some ⟨g, 0, none⟩)] 23, blkC (w.heap.size + 1 + 1) [.bool false] 4, blkC (w.heap.size + 1) [.int .i64 at_] 3, blkC w.heap.size [.slice ao2 zl c2] 22, inC w] noS w2)) := hid (RN.out.mono (fun e w2 hq => by
    obtain ⟨R, v, rfl, A2⟩ := hq
    refine ⟨R, rfl, hid ⟨Q, lv, ps, N, v, _, ?_, B1, RS.zero m, fun x hx => by cases hx⟩⟩
    refine A2.perm ?_
    refine List.Perm.trans ?_ (.cons _ (.cons _ (List.Perm.refl _)))
    have q1 : ∀ (l : List Comp) (a b c : Comp) (r : List Comp), (l ++ a :: b :: c :: r).Perm (b :: c :: (l ++ a :: r)) := fun l a b c r => by
      have h1 : (l ++ a :: b :: c :: r) = (l ++ [a]) ++ b :: (c :: r) := by simp
      rw [h1]
      refine List.perm_middle.trans (.cons _ ?_)
      have h2 : (l ++ [a]) ++ c :: r = (l ++ [a]) ++ c :: r := rfl
      refine List.perm_middle.trans (.cons _ ?_)
      simp
    exact q1 _ _ _ _ _))
  have e1 : (w1.alloc (.cells #[.pointer (some ⟨g, 0, none⟩)] 23)).cell? ⟨w1.heap.size, 0, none⟩ = some (.pointer (some ⟨g, 0, none⟩)) := by rw [cell_at (heap_alloc_new w1 _)]; rfl
  clear A1 B1 H e1
  gi_wp2
  refine ⟨trivial, (callsIn_wide.2 RN.out).mono ?_⟩
  rintro e w2 ⟨R, rfl, h2⟩
  have P2 := h2.out.add [.pointer (some ⟨R, 0, none⟩)] 27
  obtain ⟨rest, hrest⟩ : ∃ rest, Hid (rest = blkC w2.heap.size [.pointer (some ⟨R, 0, none⟩)] 27 :: [blkC w1.heap.size [.pointer (some ⟨g, 0, none⟩)] 23, blkC (w.heap.size + 1 + 1) [.bool false] 4, blkC (w.heap.size + 1) [.int .i64 at_] 3, blkC w.heap.size [.slice ao2 zl c2] 22, inC w]) := ⟨_, hid rfl⟩
  rw [← hrest.out] at P2
  have cX : (w2.alloc (.cells #[.pointer (some ⟨R, 0, none⟩)] 27)).cell? ⟨w1.heap.size, 0, none⟩ = some (.pointer (some ⟨g, 0, none⟩)) := by
    rw [cell_at (P2.rest.blk (g := w1.heap.size) (vs := [.pointer (some ⟨g, 0, none⟩)]) (t := 23) (by rw [hrest.out]; simp))]; rfl
  have P2 : Hid (∃ S, Pair [] g R m rest S (w2.alloc (.cells #[.pointer (some ⟨R, 0, none⟩)] 27))) := hid ⟨_, P2⟩
  clear h2 RN
  gi_wp2
  gi_loopw [14, 45, 46, 47, 48, 49, 50, 51, 52, 53, 54, 55, 56, 57, 58, 59, 60, 61, 62, 63, 64, 65, 66] (fun p14 p45 p46 p47 p48 p49 p50 p51 p52 p53 p54 p55 p56 p57 p58 p59 p60 p61 p62 p63 p64 p65 p66 wr => ∃ i : Nat, p45 = .int .i64 i ∧ i ≤ xl ∧ Hid (∃ S, Pair [] g R m rest S wr))
    (fun p14 p45 p46 p47 p48 p49 p50 p51 p52 p53 p54 p55 p56 p57 p58 p59 p60 p61 p62 p63 p64 p65 p66 _ => match p45 with | .int _ i => (xl - i).toNat | _ => 0)
  case atStart => exact ⟨0, rfl, by omega, P2⟩
  case round =>
    obtain ⟨i, rfl, hi, hS⟩ := hrel
    by_cases hc : (i : Int) < (xl : Int)
    · obtain ⟨S, hP⟩ := hS.out
      have hbel : Below w.heap.size w wr := hP.rest.into (by rw [hrest.out]; simp)
      obtain ⟨x, hxi⟩ : ∃ x, xs[i]? = some x := ⟨_, List.getElem?_eq_getElem (by rw [← hxl.out]; omega)⟩
      obtain ⟨b, o, rfl, hbl, hcell, hrd⟩ := HX.out.at hbel hxi
      have hbw : b < wr.heap.size := Nat.lt_of_lt_of_le hbl hbel.size
      have c0 : wr.cell? ⟨b, o + i * 6, none⟩ = some (.int .i64 x.kind) := hcell 0 _ rfl
      have c1 := hcell 1 _ rfl
      have c2' := hcell 2 _ rfl
      have c3 := hcell 3 _ rfl
      have c4 := hcell 4 _ rfl
      have c5 := hcell 5 _ rfl
      have HRD : Hid (∀ wz, Below w.heap.size w wz → Reads wz (.slice x.d1 x.d2 x.d3) x.data) := hid (fun wz hz => by
        obtain ⟨_, _, _, _, _, h⟩ := HX.out.at hz hxi
        exact h)
      clear hcell hxi
      have hPA := hP.add [.int .i64 x.kind, .int .i64 x.book, .int .i64 x.num, .int .i64 x.at_, .slice x.d1 x.d2 x.d3, .slice x.l1 x.l2 x.l3] 39
      have hPA := (show Pair [] g R m (blkC wr.heap.size [.int .i64 x.kind, .int .i64 x.book, .int .i64 x.num, .int .i64 x.at_, .slice x.d1 x.d2 x.d3, .slice x.l1 x.l2 x.l3] 39 :: rest) S (wr.alloc (.cells #[.int .i64 x.kind, .int .i64 x.book, .int .i64 x.num, .int .i64 x.at_, .slice x.d1 x.d2 x.d3, .slice x.l1 x.l2 x.l3] 39)) from hPA)
      obtain ⟨E9, hE9⟩ : ∃ E9, Hid (E9 = putE m S x.num x.at_ x.data) := ⟨_, hid rfl⟩
      obtain ⟨S9, hS9⟩ : ∃ S9, Hid (S9 = putS m S x.num x.at_ x.data) := ⟨_, hid rfl⟩
      have rest9 : ∀ wz, All (blkC wr.heap.size [.int .i64 x.kind, .int .i64 x.book, .int .i64 x.num, .int .i64 x.at_, .slice x.d1 x.d2 x.d3, .slice x.l1 x.l2 x.l3] 39 :: rest) wz → wz.cell? ⟨w1.heap.size, 0, none⟩ = some (.pointer (some ⟨g, 0, none⟩)) ∧ wz.cell? ⟨w2.heap.size, 0, none⟩ = some (.pointer (some ⟨R, 0, none⟩)) ∧ wz.cell? ⟨wr.heap.size, 2, none⟩ = some (.int .i64 x.num) ∧ wz.cell? ⟨wr.heap.size, 3, none⟩ = some (.int .i64 x.at_) ∧ wz.cell? ⟨wr.heap.size, 4, none⟩ = some (.slice x.d1 x.d2 x.d3) := fun wz hz => by
        have eA : wz.heap[wr.heap.size]? = some (.cells [.int .i64 x.kind, .int .i64 x.book, .int .i64 x.num, .int .i64 x.at_, .slice x.d1 x.d2 x.d3, .slice x.l1 x.l2 x.l3].toArray 39 (0, 0)) := hz.blk (by simp)
        have eX : wz.heap[w1.heap.size]? = some (.cells [.pointer (some ⟨g, 0, none⟩)].toArray 23 (0, 0)) := hz.blk (by rw [hrest.out]; simp)
        have eY : wz.heap[w2.heap.size]? = some (.cells [.pointer (some ⟨R, 0, none⟩)].toArray 27 (0, 0)) := hz.blk (by rw [hrest.out]; simp)
        exact ⟨by rw [cell_at eX]; rfl, by rw [cell_at eY]; rfl, by rw [cell_at eA]; rfl, by rw [cell_at eA]; rfl, by rw [cell_at eA]; rfl⟩
      obtain ⟨kX, kY, kA2, kA3, kA4⟩ := rest9 _ hPA.rest
      have MC := hid (fun wz (hz : PairM [] g R m (blkC wr.heap.size [.int .i64 x.kind, .int .i64 x.book, .int .i64 x.num, .int .i64 x.at_, .slice x.d1 x.d2 x.d3, .slice x.l1 x.l2 x.l3] 39 :: rest) S S9 wz) => rest9 wz hz.rest)
      have hrd2 : Reads (wr.alloc (.cells #[.int .i64 x.kind, .int .i64 x.book, .int .i64 x.num, .int .i64 x.at_, .slice x.d1 x.d2 x.d3, .slice x.l1 x.l2 x.l3] 39)).drew (.slice x.d1 x.d2 x.d3) x.data := (hrd.below (ba wr _)).drew
      have C1 := hid ((hPA.later (bd _)).putX (num := x.num) (at_ := x.at_) hrd2)
      rw [← hE9.out, ← hS9.out] at C1
      have C2 : Hid (∀ wz, PairM [] g R m (blkC wr.heap.size [.int .i64 x.kind, .int .i64 x.book, .int .i64 x.num, .int .i64 x.at_, .slice x.d1 x.d2 x.d3, .slice x.l1 x.l2 x.l3] 39 :: rest) S S9 wz → Calls Try.prog 13 #[.pointer (some ⟨R, 0, none⟩), .int .i64 x.num, .int .i64 x.at_, .slice x.d1 x.d2 x.d3] wz fun e w' => e = .returned (.int .i64 E9) ∧ Pair [] g R m (blkC wr.heap.size [.int .i64 x.kind, .int .i64 x.book, .int .i64 x.num, .int .i64 x.at_, .slice x.d1 x.d2 x.d3, .slice x.l1 x.l2 x.l3] 39 :: rest) S9 w') := hid (fun wz hz => by
        rw [hE9.out]
        exact PairM.putY hz hS9.out hP.cap (HRD.out wz (hz.rest.into (by rw [hrest.out]; simp))))
      have wi : IntKind.i64.wrap ((i : Int) + 1) = ((i + 1 : Nat) : Int) := by
        have := HL.out
        have := hxl.out
        unfold maxLen at *
        rw [IntKind.wrap_i64]; omega
      clear cX P2 hS rest9 hPA hrd hrd2 hbel
      gi_wp2
      refine region_inv (by kernel_rfl) (InvP [Value.int IntKind.i64 ↑m, Value.slice (some { block := b, off := o }) xl c, Value.slice ao2 zl c2, Value.int IntKind.i64 at_, undef, undef, Value.pointer (some { block := w.heap.size, off := 0 }), Value.pointer (some { block := w.heap.size + 1, off := 0 }), Value.pointer (some { block := w.heap.size + 1 + 1, off := 0 }), Value.pointer (some { block := w1.heap.size, off := 0 }), Value.int IntKind.i64 0, Value.pointer (some { block := w2.heap.size, off := 0 }), Value.int IntKind.i64 0, undef, Value.pointer (some { block := wr.heap.size, off := 0 }), undef, undef, undef, undef, undef, undef, undef, undef, Value.tuple #[Value.pointer (some { block := g, off := 0 }), Value.int IntKind.i64 0], Value.int IntKind.i64 ↑m, Value.tuple #[Value.pointer (some { block := g, off := 0 }), Value.int IntKind.i64 0], Value.pointer (some { block := g, off := 0 }), Value.int IntKind.i64 0, Value.tuple #[Value.pointer (some { block := R, off := 0 }), Value.int IntKind.i64 0], Value.int IntKind.i64 ↑m, Value.tuple #[Value.pointer (some { block := R, off := 0 }), Value.int IntKind.i64 0], Value.pointer (some { block := R, off := 0 }), Value.int IntKind.i64 0, Value.pointer (some { block := R, off := 0 }), Value.bool false, undef, undef, Value.int IntKind.i64 0, Value.bool false, Value.bool false, Value.pointer (some { block := g, off := 0 }), Value.bool false, Value.bool false, Value.slice (some { block := b, off := o }) xl c, Value.int IntKind.i64 ↑xl, Value.int IntKind.i64 ↑i, Value.bool true, Value.pointer (some { block := b, off := o + i * 6 }), Value.agg #[Value.int IntKind.i64 x.kind, Value.int IntKind.i64 x.book, Value.int IntKind.i64 x.num, Value.int IntKind.i64 x.at_, Value.slice x.d1 x.d2 x.d3, Value.slice x.l1 x.l2 x.l3]] [u66, undef, undef, undef, undef, undef, undef, undef, undef, undef, undef, undef, undef, undef, undef, undef, undef, undef, undef, undef, undef, undef, undef, undef, undef, undef, undef, undef, undef, undef, undef, undef, undef, undef, undef, undef, undef, undef, undef, undef, undef, undef, undef, undef, undef, undef, undef, undef, undef, undef, undef, undef, undef, undef, undef, undef, undef, undef, undef, undef, undef, undef, undef, undef, undef, undef, undef, undef, undef, undef, undef, undef, undef, undef, undef, undef, undef, undef, undef, undef, undef] (.pointer (some ⟨g, 0, none⟩)) (.pointer (some ⟨R, 0, none⟩)) (.int .i64 x.num) (.int .i64 x.at_) (.slice x.d1 x.d2 x.d3) (.pointer (some ⟨wr.heap.size, 2, none⟩)) (.pointer (some ⟨wr.heap.size, 3, none⟩)) (.pointer (some ⟨wr.heap.size, 4, none⟩)) E9 (wr.alloc (.cells #[.int .i64 x.kind, .int .i64 x.book, .int .i64 x.num, .int .i64 x.at_, .slice x.d1 x.d2 x.d3, .slice x.l1 x.l2 x.l3] 39)) (PairM [] g R m (blkC wr.heap.size [.int .i64 x.kind, .int .i64 x.book, .int .i64 x.num, .int .i64 x.at_, .slice x.d1 x.d2 x.d3, .slice x.l1 x.l2 x.l3] 39 :: rest) S S9) (Pair [] g R m (blkC wr.heap.size [.int .i64 x.kind, .int .i64 x.book, .int .i64 x.num, .int .i64 x.at_, .slice x.d1 x.d2 x.d3, .slice x.l1 x.l2 x.l3] 39 :: rest) S9)) (lowB_spec (by kernel_rfl)) ?h0 ?hstep ?hdone
      case h0 => exact ⟨_, _, _, _, _, _, _, _, _, _, _, _, _, _, _, _, _, rfl, (fun h => by cases h), (fun h => by cases h), (fun h => by cases h), (fun h => by cases h), (fun h => by cases h), (fun h => by cases h), (fun h => by cases h), (fun h => by cases h), (fun h => by cases h), (fun h => by cases h), (fun h => by cases h), (fun h => by cases h), (fun h => by cases h), (fun h => by cases h), (fun h => by cases h), (fun h => by cases h), (fun h => by cases h), (fun _ => rfl), (fun h => by cases h), (fun h => by cases h), (fun h => by cases h), (fun h => by cases h), (fun h => by cases h)⟩
      case hdone =>
        rintro G ac w9 hG ⟨t0, t1, t2, t3, t4, t5, t6, t7, t8, t9, t10, t11, t12, t13, t14, t15, t16, rfl, g0, g1, g2, g3, g4, g5, g6, g7, g8, g9, g10, g11, g12, g13, g14, g15, g16, kw1, kw2, kw3, kc7, kc15, kc16⟩
        obtain rfl := g0 (hG 0 (by decide))
        obtain rfl := g1 (hG 1 (by decide))
        obtain rfl := g2 (hG 2 (by decide))
        obtain rfl := g3 (hG 3 (by decide))
        obtain rfl := g4 (hG 4 (by decide))
        obtain rfl := g5 (hG 5 (by decide))
        obtain rfl := g6 (hG 6 (by decide))
        obtain rfl := g7 (hG 7 (by decide))
        obtain rfl := g8 (hG 8 (by decide))
        obtain rfl := g9 (hG 9 (by decide))
        obtain rfl := g10 (hG 10 (by decide))
        obtain rfl := g11 (hG 11 (by decide))
        obtain rfl := g12 (hG 12 (by decide))
        obtain rfl := g13 (hG 13 (by decide))
        obtain rfl := g14 (hG 14 (by decide))
        obtain rfl := g15 (hG 15 (by decide))
        obtain rfl := g16 (hG 16 (by decide))
        have HF9 := hid (kw3 (hG 15 (by decide)))
        clear g0 g1 g2 g3 g4 g5 g6 g7 g8 g9 g10 g11 g12 g13 g14 g15 g16 kw1 kw2 kw3 kc7 kc15 kc16 hG
        simp only [List.cons_append, List.nil_append]
        have NX : Hid (∃ S, Pair [] g R m rest S w9) := hid ⟨_, HF9.out.drop⟩
        clear HF9 kX kY kA2 kA3 kA4 C1 C2 MC hP
        gi_wp2
        exact ⟨⟨i + 1, rfl, by omega, NX⟩, by simp only; omega⟩
      case hstep =>
        intro G i9 o9 ac w9 ho hG hd hI
        have hi9 : i9 < 17 := (Array.getElem?_eq_some_iff.1 ho).1
        obtain ⟨t0, t1, t2, t3, t4, t5, t6, t7, t8, t9, t10, t11, t12, t13, t14, t15, t16, rfl, g0, g1, g2, g3, g4, g5, g6, g7, g8, g9, g10, g11, g12, g13, g14, g15, g16, kw1, kw2, kw3, kc7, kc15, kc16⟩ := hI
        have hcells : G 15 = false → w9.cell? ⟨w1.heap.size, 0, none⟩ = some (.pointer (some ⟨g, 0, none⟩)) ∧ w9.cell? ⟨w2.heap.size, 0, none⟩ = some (.pointer (some ⟨R, 0, none⟩)) ∧ w9.cell? ⟨wr.heap.size, 2, none⟩ = some (.int .i64 x.num) ∧ w9.cell? ⟨wr.heap.size, 3, none⟩ = some (.int .i64 x.at_) ∧ w9.cell? ⟨wr.heap.size, 4, none⟩ = some (.slice x.d1 x.d2 x.d3) := fun h15 => by
          cases h7 : G 7 with
          | false => rw [kw1 h7]; exact ⟨kX, kY, kA2, kA3, kA4⟩
          | true => exact MC.out _ (kw2 h7 h15)
        have hcs : i9 = 0 ∨ i9 = 1 ∨ i9 = 2 ∨ i9 = 3 ∨ i9 = 4 ∨ i9 = 5 ∨ i9 = 6 ∨ i9 = 7 ∨ i9 = 8 ∨ i9 = 9 ∨ i9 = 10 ∨ i9 = 11 ∨ i9 = 12 ∨ i9 = 13 ∨ i9 = 14 ∨ i9 = 15 ∨ i9 = 16 := by omega
        rcases hcs with rfl | rfl | rfl | rfl | rfl | rfl | rfl | rfl | rfl | rfl | rfl | rfl | rfl | rfl | rfl | rfl | rfl
        · have ho : _ = o9 := Option.some.inj ho
          subst ho
          have h7 : G 7 = false := by cases h : G 7 with | false => rfl | true => rw [(kc7 h).1] at hG; cases hG
          have h15 : G 15 = false := by cases h : G 15 with | false => rfl | true => rw [(kc15 h).2.2.2.2] at h7; cases h7
          obtain ⟨q1, q2, q3, q4, q5⟩ := hcells h15
          have HH := hid (show _ ∧ _ ∧ _ ∧ _ ∧ _ ∧ _ ∧ _ ∧ _ ∧ _ ∧ _ ∧ _ ∧ _ ∧ _ ∧ _ ∧ _ ∧ _ ∧ _ ∧ _ ∧ _ ∧ _ ∧ _ ∧ _ ∧ _ from ⟨g0, g1, g2, g3, g4, g5, g6, g7, g8, g9, g10, g11, g12, g13, g14, g15, g16, kw1, kw2, kw3, kc7, kc15, kc16⟩)
          clear g0 g1 g2 g3 g4 g5 g6 g7 g8 g9 g10 g11 g12 g13 g14 g15 g16 kw1 kw2 kw3 kc7 kc15 kc16 hcells hd
          refine wpOpIn_of rfl rfl ?_
          simp only [List.cons_append, List.nil_append]
          gi_wp2
          obtain ⟨g0, g1, g2, g3, g4, g5, g6, g7, g8, g9, g10, g11, g12, g13, g14, g15, g16, kw1, kw2, kw3, kc7, kc15, kc16⟩ := HH.out
          exact ⟨_, _, _, _, _, _, _, _, _, _, _, _, _, _, _, _, _, rfl, (fun _ => rfl), (fun h => g1 (by simpa using h)), (fun h => g2 (by simpa using h)), (fun h => g3 (by simpa using h)), (fun h => g4 (by simpa using h)), (fun h => g5 (by simpa using h)), (fun h => g6 (by simpa using h)), (fun h => g7 (by simpa using h)), (fun h => g8 (by simpa using h)), (fun h => g9 (by simpa using h)), (fun h => g10 (by simpa using h)), (fun h => g11 (by simpa using h)), (fun h => g12 (by simpa using h)), (fun h => g13 (by simpa using h)), (fun h => g14 (by simpa using h)), (fun h => g15 (by simpa using h)), (fun h => g16 (by simpa using h)), (fun h => kw1 (by simpa using h)), (fun h h2 => kw2 (by simpa using h) (by simpa using h2)), (fun h => kw3 (by simpa using h)), (fun h => ⟨by simp, by have := (kc7 (by simpa using h)).2.1; simpa using this, by have := (kc7 (by simpa using h)).2.2.1; simpa using this, by have := (kc7 (by simpa using h)).2.2.2; simpa using this⟩), (fun h => ⟨by have := (kc15 (by simpa using h)).1; simpa using this, by have := (kc15 (by simpa using h)).2.1; simpa using this, by have := (kc15 (by simpa using h)).2.2.1; simpa using this, by have := (kc15 (by simpa using h)).2.2.2.1; simpa using this, by have := (kc15 (by simpa using h)).2.2.2.2; simpa using this⟩), (fun h => (by have := (kc16 (by simpa using h)); simpa using this))⟩
        · have ho : _ = o9 := Option.some.inj ho
          subst ho
          have HH := hid (show _ ∧ _ ∧ _ ∧ _ ∧ _ ∧ _ ∧ _ ∧ _ ∧ _ ∧ _ ∧ _ ∧ _ ∧ _ ∧ _ ∧ _ ∧ _ ∧ _ ∧ _ ∧ _ ∧ _ ∧ _ ∧ _ ∧ _ from ⟨g0, g1, g2, g3, g4, g5, g6, g7, g8, g9, g10, g11, g12, g13, g14, g15, g16, kw1, kw2, kw3, kc7, kc15, kc16⟩)
          clear g0 g1 g2 g3 g4 g5 g6 g7 g8 g9 g10 g11 g12 g13 g14 g15 g16 kw1 kw2 kw3 kc7 kc15 kc16 hcells hd
          refine wpOpIn_of rfl rfl ?_
          simp only [List.cons_append, List.nil_append]
          gi_wp2
          obtain ⟨g0, g1, g2, g3, g4, g5, g6, g7, g8, g9, g10, g11, g12, g13, g14, g15, g16, kw1, kw2, kw3, kc7, kc15, kc16⟩ := HH.out
          exact ⟨_, _, _, _, _, _, _, _, _, _, _, _, _, _, _, _, _, rfl, (fun h => g0 (by simpa using h)), (fun _ => rfl), (fun h => g2 (by simpa using h)), (fun h => g3 (by simpa using h)), (fun h => g4 (by simpa using h)), (fun h => g5 (by simpa using h)), (fun h => g6 (by simpa using h)), (fun h => g7 (by simpa using h)), (fun h => g8 (by simpa using h)), (fun h => g9 (by simpa using h)), (fun h => g10 (by simpa using h)), (fun h => g11 (by simpa using h)), (fun h => g12 (by simpa using h)), (fun h => g13 (by simpa using h)), (fun h => g14 (by simpa using h)), (fun h => g15 (by simpa using h)), (fun h => g16 (by simpa using h)), (fun h => kw1 (by simpa using h)), (fun h h2 => kw2 (by simpa using h) (by simpa using h2)), (fun h => kw3 (by simpa using h)), (fun h => ⟨by have := (kc7 (by simpa using h)).1; simpa using this, by have := (kc7 (by simpa using h)).2.1; simpa using this, by have := (kc7 (by simpa using h)).2.2.1; simpa using this, by have := (kc7 (by simpa using h)).2.2.2; simpa using this⟩), (fun h => ⟨by have := (kc15 (by simpa using h)).1; simpa using this, by have := (kc15 (by simpa using h)).2.1; simpa using this, by have := (kc15 (by simpa using h)).2.2.1; simpa using this, by have := (kc15 (by simpa using h)).2.2.2.1; simpa using this, by have := (kc15 (by simpa using h)).2.2.2.2; simpa using this⟩), (fun h => (by have := (kc16 (by simpa using h)); simpa using this))⟩
        · have ho : _ = o9 := Option.some.inj ho
          subst ho
          have d1 : G 1 = true := hd ⟨1, .data⟩ (by simp) rfl
          obtain rfl := g1 d1
          have h7 : G 7 = false := by cases h : G 7 with | false => rfl | true => rw [(kc7 h).2.1] at hG; cases hG
          have h15 : G 15 = false := by cases h : G 15 with | false => rfl | true => rw [(kc15 h).2.2.2.2] at h7; cases h7
          obtain ⟨q1, q2, q3, q4, q5⟩ := hcells h15
          have HH := hid (show _ ∧ _ ∧ _ ∧ _ ∧ _ ∧ _ ∧ _ ∧ _ ∧ _ ∧ _ ∧ _ ∧ _ ∧ _ ∧ _ ∧ _ ∧ _ ∧ _ ∧ _ ∧ _ ∧ _ ∧ _ ∧ _ ∧ _ from ⟨g0, g1, g2, g3, g4, g5, g6, g7, g8, g9, g10, g11, g12, g13, g14, g15, g16, kw1, kw2, kw3, kc7, kc15, kc16⟩)
          clear g0 g1 g2 g3 g4 g5 g6 g7 g8 g9 g10 g11 g12 g13 g14 g15 g16 kw1 kw2 kw3 kc7 kc15 kc16 hcells hd
          refine wpOpIn_of rfl rfl ?_
          simp only [List.cons_append, List.nil_append]
          gi_wp2
          obtain ⟨g0, g1, g2, g3, g4, g5, g6, g7, g8, g9, g10, g11, g12, g13, g14, g15, g16, kw1, kw2, kw3, kc7, kc15, kc16⟩ := HH.out
          exact ⟨_, _, _, _, _, _, _, _, _, _, _, _, _, _, _, _, _, rfl, (fun h => g0 (by simpa using h)), (fun _ => rfl), (fun _ => rfl), (fun h => g3 (by simpa using h)), (fun h => g4 (by simpa using h)), (fun h => g5 (by simpa using h)), (fun h => g6 (by simpa using h)), (fun h => g7 (by simpa using h)), (fun h => g8 (by simpa using h)), (fun h => g9 (by simpa using h)), (fun h => g10 (by simpa using h)), (fun h => g11 (by simpa using h)), (fun h => g12 (by simpa using h)), (fun h => g13 (by simpa using h)), (fun h => g14 (by simpa using h)), (fun h => g15 (by simpa using h)), (fun h => g16 (by simpa using h)), (fun h => kw1 (by simpa using h)), (fun h h2 => kw2 (by simpa using h) (by simpa using h2)), (fun h => kw3 (by simpa using h)), (fun h => ⟨by have := (kc7 (by simpa using h)).1; simpa using this, by simp, by have := (kc7 (by simpa using h)).2.2.1; simpa using this, by have := (kc7 (by simpa using h)).2.2.2; simpa using this⟩), (fun h => ⟨by have := (kc15 (by simpa using h)).1; simpa using this, by have := (kc15 (by simpa using h)).2.1; simpa using this, by have := (kc15 (by simpa using h)).2.2.1; simpa using this, by have := (kc15 (by simpa using h)).2.2.2.1; simpa using this, by have := (kc15 (by simpa using h)).2.2.2.2; simpa using this⟩), (fun h => (by have := (kc16 (by simpa using h)); simpa using this))⟩
        · have ho : _ = o9 := Option.some.inj ho
          subst ho
          have HH := hid (show _ ∧ _ ∧ _ ∧ _ ∧ _ ∧ _ ∧ _ ∧ _ ∧ _ ∧ _ ∧ _ ∧ _ ∧ _ ∧ _ ∧ _ ∧ _ ∧ _ ∧ _ ∧ _ ∧ _ ∧ _ ∧ _ ∧ _ from ⟨g0, g1, g2, g3, g4, g5, g6, g7, g8, g9, g10, g11, g12, g13, g14, g15, g16, kw1, kw2, kw3, kc7, kc15, kc16⟩)
          clear g0 g1 g2 g3 g4 g5 g6 g7 g8 g9 g10 g11 g12 g13 g14 g15 g16 kw1 kw2 kw3 kc7 kc15 kc16 hcells hd
          refine wpOpIn_of rfl rfl ?_
          simp only [List.cons_append, List.nil_append]
          gi_wp2
          obtain ⟨g0, g1, g2, g3, g4, g5, g6, g7, g8, g9, g10, g11, g12, g13, g14, g15, g16, kw1, kw2, kw3, kc7, kc15, kc16⟩ := HH.out
          exact ⟨_, _, _, _, _, _, _, _, _, _, _, _, _, _, _, _, _, rfl, (fun h => g0 (by simpa using h)), (fun h => g1 (by simpa using h)), (fun h => g2 (by simpa using h)), (fun _ => rfl), (fun h => g4 (by simpa using h)), (fun h => g5 (by simpa using h)), (fun h => g6 (by simpa using h)), (fun h => g7 (by simpa using h)), (fun h => g8 (by simpa using h)), (fun h => g9 (by simpa using h)), (fun h => g10 (by simpa using h)), (fun h => g11 (by simpa using h)), (fun h => g12 (by simpa using h)), (fun h => g13 (by simpa using h)), (fun h => g14 (by simpa using h)), (fun h => g15 (by simpa using h)), (fun h => g16 (by simpa using h)), (fun h => kw1 (by simpa using h)), (fun h h2 => kw2 (by simpa using h) (by simpa using h2)), (fun h => kw3 (by simpa using h)), (fun h => ⟨by have := (kc7 (by simpa using h)).1; simpa using this, by have := (kc7 (by simpa using h)).2.1; simpa using this, by have := (kc7 (by simpa using h)).2.2.1; simpa using this, by have := (kc7 (by simpa using h)).2.2.2; simpa using this⟩), (fun h => ⟨by have := (kc15 (by simpa using h)).1; simpa using this, by have := (kc15 (by simpa using h)).2.1; simpa using this, by have := (kc15 (by simpa using h)).2.2.1; simpa using this, by have := (kc15 (by simpa using h)).2.2.2.1; simpa using this, by have := (kc15 (by simpa using h)).2.2.2.2; simpa using this⟩), (fun h => (by have := (kc16 (by simpa using h)); simpa using this))⟩
        · have ho : _ = o9 := Option.some.inj ho
          subst ho
          have d3 : G 3 = true := hd ⟨3, .data⟩ (by simp) rfl
          obtain rfl := g3 d3
          have h7 : G 7 = false := by cases h : G 7 with | false => rfl | true => rw [(kc7 h).2.2.1] at hG; cases hG
          have h15 : G 15 = false := by cases h : G 15 with | false => rfl | true => rw [(kc15 h).2.2.2.2] at h7; cases h7
          obtain ⟨q1, q2, q3, q4, q5⟩ := hcells h15
          have HH := hid (show _ ∧ _ ∧ _ ∧ _ ∧ _ ∧ _ ∧ _ ∧ _ ∧ _ ∧ _ ∧ _ ∧ _ ∧ _ ∧ _ ∧ _ ∧ _ ∧ _ ∧ _ ∧ _ ∧ _ ∧ _ ∧ _ ∧ _ from ⟨g0, g1, g2, g3, g4, g5, g6, g7, g8, g9, g10, g11, g12, g13, g14, g15, g16, kw1, kw2, kw3, kc7, kc15, kc16⟩)
          clear g0 g1 g2 g3 g4 g5 g6 g7 g8 g9 g10 g11 g12 g13 g14 g15 g16 kw1 kw2 kw3 kc7 kc15 kc16 hcells hd
          refine wpOpIn_of rfl rfl ?_
          simp only [List.cons_append, List.nil_append]
          gi_wp2
          obtain ⟨g0, g1, g2, g3, g4, g5, g6, g7, g8, g9, g10, g11, g12, g13, g14, g15, g16, kw1, kw2, kw3, kc7, kc15, kc16⟩ := HH.out
          exact ⟨_, _, _, _, _, _, _, _, _, _, _, _, _, _, _, _, _, rfl, (fun h => g0 (by simpa using h)), (fun h => g1 (by simpa using h)), (fun h => g2 (by simpa using h)), (fun _ => rfl), (fun _ => rfl), (fun h => g5 (by simpa using h)), (fun h => g6 (by simpa using h)), (fun h => g7 (by simpa using h)), (fun h => g8 (by simpa using h)), (fun h => g9 (by simpa using h)), (fun h => g10 (by simpa using h)), (fun h => g11 (by simpa using h)), (fun h => g12 (by simpa using h)), (fun h => g13 (by simpa using h)), (fun h => g14 (by simpa using h)), (fun h => g15 (by simpa using h)), (fun h => g16 (by simpa using h)), (fun h => kw1 (by simpa using h)), (fun h h2 => kw2 (by simpa using h) (by simpa using h2)), (fun h => kw3 (by simpa using h)), (fun h => ⟨by have := (kc7 (by simpa using h)).1; simpa using this, by have := (kc7 (by simpa using h)).2.1; simpa using this, by simp, by have := (kc7 (by simpa using h)).2.2.2; simpa using this⟩), (fun h => ⟨by have := (kc15 (by simpa using h)).1; simpa using this, by have := (kc15 (by simpa using h)).2.1; simpa using this, by have := (kc15 (by simpa using h)).2.2.1; simpa using this, by have := (kc15 (by simpa using h)).2.2.2.1; simpa using this, by have := (kc15 (by simpa using h)).2.2.2.2; simpa using this⟩), (fun h => (by have := (kc16 (by simpa using h)); simpa using this))⟩
        · have ho : _ = o9 := Option.some.inj ho
          subst ho
          have HH := hid (show _ ∧ _ ∧ _ ∧ _ ∧ _ ∧ _ ∧ _ ∧ _ ∧ _ ∧ _ ∧ _ ∧ _ ∧ _ ∧ _ ∧ _ ∧ _ ∧ _ ∧ _ ∧ _ ∧ _ ∧ _ ∧ _ ∧ _ from ⟨g0, g1, g2, g3, g4, g5, g6, g7, g8, g9, g10, g11, g12, g13, g14, g15, g16, kw1, kw2, kw3, kc7, kc15, kc16⟩)
          clear g0 g1 g2 g3 g4 g5 g6 g7 g8 g9 g10 g11 g12 g13 g14 g15 g16 kw1 kw2 kw3 kc7 kc15 kc16 hcells hd
          refine wpOpIn_of rfl rfl ?_
          simp only [List.cons_append, List.nil_append]
          gi_wp2
          obtain ⟨g0, g1, g2, g3, g4, g5, g6, g7, g8, g9, g10, g11, g12, g13, g14, g15, g16, kw1, kw2, kw3, kc7, kc15, kc16⟩ := HH.out
          exact ⟨_, _, _, _, _, _, _, _, _, _, _, _, _, _, _, _, _, rfl, (fun h => g0 (by simpa using h)), (fun h => g1 (by simpa using h)), (fun h => g2 (by simpa using h)), (fun h => g3 (by simpa using h)), (fun h => g4 (by simpa using h)), (fun _ => rfl), (fun h => g6 (by simpa using h)), (fun h => g7 (by simpa using h)), (fun h => g8 (by simpa using h)), (fun h => g9 (by simpa using h)), (fun h => g10 (by simpa using h)), (fun h => g11 (by simpa using h)), (fun h => g12 (by simpa using h)), (fun h => g13 (by simpa using h)), (fun h => g14 (by simpa using h)), (fun h => g15 (by simpa using h)), (fun h => g16 (by simpa using h)), (fun h => kw1 (by simpa using h)), (fun h h2 => kw2 (by simpa using h) (by simpa using h2)), (fun h => kw3 (by simpa using h)), (fun h => ⟨by have := (kc7 (by simpa using h)).1; simpa using this, by have := (kc7 (by simpa using h)).2.1; simpa using this, by have := (kc7 (by simpa using h)).2.2.1; simpa using this, by have := (kc7 (by simpa using h)).2.2.2; simpa using this⟩), (fun h => ⟨by have := (kc15 (by simpa using h)).1; simpa using this, by have := (kc15 (by simpa using h)).2.1; simpa using this, by have := (kc15 (by simpa using h)).2.2.1; simpa using this, by have := (kc15 (by simpa using h)).2.2.2.1; simpa using this, by have := (kc15 (by simpa using h)).2.2.2.2; simpa using this⟩), (fun h => (by have := (kc16 (by simpa using h)); simpa using this))⟩
        · have ho : _ = o9 := Option.some.inj ho
          subst ho
          have d5 : G 5 = true := hd ⟨5, .data⟩ (by simp) rfl
          obtain rfl := g5 d5
          have h7 : G 7 = false := by cases h : G 7 with | false => rfl | true => rw [(kc7 h).2.2.2] at hG; cases hG
          have h15 : G 15 = false := by cases h : G 15 with | false => rfl | true => rw [(kc15 h).2.2.2.2] at h7; cases h7
          obtain ⟨q1, q2, q3, q4, q5⟩ := hcells h15
          have HH := hid (show _ ∧ _ ∧ _ ∧ _ ∧ _ ∧ _ ∧ _ ∧ _ ∧ _ ∧ _ ∧ _ ∧ _ ∧ _ ∧ _ ∧ _ ∧ _ ∧ _ ∧ _ ∧ _ ∧ _ ∧ _ ∧ _ ∧ _ from ⟨g0, g1, g2, g3, g4, g5, g6, g7, g8, g9, g10, g11, g12, g13, g14, g15, g16, kw1, kw2, kw3, kc7, kc15, kc16⟩)
          clear g0 g1 g2 g3 g4 g5 g6 g7 g8 g9 g10 g11 g12 g13 g14 g15 g16 kw1 kw2 kw3 kc7 kc15 kc16 hcells hd
          refine wpOpIn_of rfl rfl ?_
          simp only [List.cons_append, List.nil_append]
          gi_wp2
          obtain ⟨g0, g1, g2, g3, g4, g5, g6, g7, g8, g9, g10, g11, g12, g13, g14, g15, g16, kw1, kw2, kw3, kc7, kc15, kc16⟩ := HH.out
          exact ⟨_, _, _, _, _, _, _, _, _, _, _, _, _, _, _, _, _, rfl, (fun h => g0 (by simpa using h)), (fun h => g1 (by simpa using h)), (fun h => g2 (by simpa using h)), (fun h => g3 (by simpa using h)), (fun h => g4 (by simpa using h)), (fun _ => rfl), (fun _ => rfl), (fun h => g7 (by simpa using h)), (fun h => g8 (by simpa using h)), (fun h => g9 (by simpa using h)), (fun h => g10 (by simpa using h)), (fun h => g11 (by simpa using h)), (fun h => g12 (by simpa using h)), (fun h => g13 (by simpa using h)), (fun h => g14 (by simpa using h)), (fun h => g15 (by simpa using h)), (fun h => g16 (by simpa using h)), (fun h => kw1 (by simpa using h)), (fun h h2 => kw2 (by simpa using h) (by simpa using h2)), (fun h => kw3 (by simpa using h)), (fun h => ⟨by have := (kc7 (by simpa using h)).1; simpa using this, by have := (kc7 (by simpa using h)).2.1; simpa using this, by have := (kc7 (by simpa using h)).2.2.1; simpa using this, by simp⟩), (fun h => ⟨by have := (kc15 (by simpa using h)).1; simpa using this, by have := (kc15 (by simpa using h)).2.1; simpa using this, by have := (kc15 (by simpa using h)).2.2.1; simpa using this, by have := (kc15 (by simpa using h)).2.2.2.1; simpa using this, by have := (kc15 (by simpa using h)).2.2.2.2; simpa using this⟩), (fun h => (by have := (kc16 (by simpa using h)); simpa using this))⟩
        · have ho : _ = o9 := Option.some.inj ho
          subst ho
          have d0 : G 0 = true := hd ⟨0, .data⟩ (by simp) rfl
          have d2 : G 2 = true := hd ⟨2, .data⟩ (by simp) rfl
          have d4 : G 4 = true := hd ⟨4, .data⟩ (by simp) rfl
          have d6 : G 6 = true := hd ⟨6, .data⟩ (by simp) rfl
          obtain rfl := g0 d0
          obtain rfl := g2 d2
          obtain rfl := g4 d4
          obtain rfl := g6 d6
          have h15 : G 15 = false := by cases h : G 15 with | false => rfl | true => rw [(kc15 h).2.2.2.2] at hG; cases hG
          have h16 : G 16 = false := by cases h : G 16 with | false => rfl | true => rw [kc16 h] at h15; cases h15
          obtain rfl := kw1 hG
          have HH := hid (show _ ∧ _ ∧ _ ∧ _ ∧ _ ∧ _ ∧ _ ∧ _ ∧ _ ∧ _ ∧ _ ∧ _ ∧ _ ∧ _ ∧ _ ∧ _ ∧ _ ∧ _ ∧ _ ∧ _ ∧ _ ∧ _ ∧ _ from ⟨g0, g1, g2, g3, g4, g5, g6, g7, g8, g9, g10, g11, g12, g13, g14, g15, g16, kw1, kw2, kw3, kc7, kc15, kc16⟩)
          clear g0 g1 g2 g3 g4 g5 g6 g7 g8 g9 g10 g11 g12 g13 g14 g15 g16 kw1 kw2 kw3 kc7 kc15 kc16 hcells hd
          refine wpOpIn_of rfl rfl ?_
          simp only [List.cons_append, List.nil_append]
          gi_wp2
          refine ⟨trivial, (callsIn_wide.2 C1.out).mono ?_⟩
          rintro e w10 ⟨rfl, hm10⟩
          have hm10 := hid hm10
          gi_wp2
          obtain ⟨g0, g1, g2, g3, g4, g5, g6, g7, g8, g9, g10, g11, g12, g13, g14, g15, g16, kw1, kw2, kw3, kc7, kc15, kc16⟩ := HH.out
          exact ⟨_, _, _, _, _, _, _, _, _, _, _, _, _, _, _, _, _, rfl, (fun _ => rfl), (fun h => g1 (by simpa using h)), (fun _ => rfl), (fun h => g3 (by simpa using h)), (fun _ => rfl), (fun h => g5 (by simpa using h)), (fun _ => rfl), (fun _ => rfl), (fun h => g8 (by simpa using h)), (fun h => g9 (by simpa using h)), (fun h => g10 (by simpa using h)), (fun h => g11 (by simpa using h)), (fun h => g12 (by simpa using h)), (fun h => g13 (by simpa using h)), (fun h => g14 (by simpa using h)), (fun h => g15 (by simpa using h)), (fun h => g16 (by simpa using h)), (fun h => by simp at h), (fun _ _ => hm10.out), (fun h => by simp [h15] at h), (fun h => ⟨by simp [d0], by simp [d2], by simp [d4], by simp [d6]⟩), (fun h => ⟨by have := (kc15 (by simpa using h)).1; simpa using this, by have := (kc15 (by simpa using h)).2.1; simpa using this, by have := (kc15 (by simpa using h)).2.2.1; simpa using this, by have := (kc15 (by simpa using h)).2.2.2.1; simpa using this, by simp⟩), (fun h => (by have := (kc16 (by simpa using h)); simpa using this))⟩
        · have ho : _ = o9 := Option.some.inj ho
          subst ho
          have h15 : G 15 = false := by cases h : G 15 with | false => rfl | true => rw [(kc15 h).1] at hG; cases hG
          obtain ⟨q1, q2, q3, q4, q5⟩ := hcells h15
          have HH := hid (show _ ∧ _ ∧ _ ∧ _ ∧ _ ∧ _ ∧ _ ∧ _ ∧ _ ∧ _ ∧ _ ∧ _ ∧ _ ∧ _ ∧ _ ∧ _ ∧ _ ∧ _ ∧ _ ∧ _ ∧ _ ∧ _ ∧ _ from ⟨g0, g1, g2, g3, g4, g5, g6, g7, g8, g9, g10, g11, g12, g13, g14, g15, g16, kw1, kw2, kw3, kc7, kc15, kc16⟩)
          clear g0 g1 g2 g3 g4 g5 g6 g7 g8 g9 g10 g11 g12 g13 g14 g15 g16 kw1 kw2 kw3 kc7 kc15 kc16 hcells hd
          refine wpOpIn_of rfl rfl ?_
          simp only [List.cons_append, List.nil_append]
          gi_wp2
          obtain ⟨g0, g1, g2, g3, g4, g5, g6, g7, g8, g9, g10, g11, g12, g13, g14, g15, g16, kw1, kw2, kw3, kc7, kc15, kc16⟩ := HH.out
          exact ⟨_, _, _, _, _, _, _, _, _, _, _, _, _, _, _, _, _, rfl, (fun h => g0 (by simpa using h)), (fun h => g1 (by simpa using h)), (fun h => g2 (by simpa using h)), (fun h => g3 (by simpa using h)), (fun h => g4 (by simpa using h)), (fun h => g5 (by simpa using h)), (fun h => g6 (by simpa using h)), (fun h => g7 (by simpa using h)), (fun _ => rfl), (fun h => g9 (by simpa using h)), (fun h => g10 (by simpa using h)), (fun h => g11 (by simpa using h)), (fun h => g12 (by simpa using h)), (fun h => g13 (by simpa using h)), (fun h => g14 (by simpa using h)), (fun h => g15 (by simpa using h)), (fun h => g16 (by simpa using h)), (fun h => kw1 (by simpa using h)), (fun h h2 => kw2 (by simpa using h) (by simpa using h2)), (fun h => kw3 (by simpa using h)), (fun h => ⟨by have := (kc7 (by simpa using h)).1; simpa using this, by have := (kc7 (by simpa using h)).2.1; simpa using this, by have := (kc7 (by simpa using h)).2.2.1; simpa using this, by have := (kc7 (by simpa using h)).2.2.2; simpa using this⟩), (fun h => ⟨by simp, by have := (kc15 (by simpa using h)).2.1; simpa using this, by have := (kc15 (by simpa using h)).2.2.1; simpa using this, by have := (kc15 (by simpa using h)).2.2.2.1; simpa using this, by have := (kc15 (by simpa using h)).2.2.2.2; simpa using this⟩), (fun h => (by have := (kc16 (by simpa using h)); simpa using this))⟩
        · have ho : _ = o9 := Option.some.inj ho
          subst ho
          have HH := hid (show _ ∧ _ ∧ _ ∧ _ ∧ _ ∧ _ ∧ _ ∧ _ ∧ _ ∧ _ ∧ _ ∧ _ ∧ _ ∧ _ ∧ _ ∧ _ ∧ _ ∧ _ ∧ _ ∧ _ ∧ _ ∧ _ ∧ _ from ⟨g0, g1, g2, g3, g4, g5, g6, g7, g8, g9, g10, g11, g12, g13, g14, g15, g16, kw1, kw2, kw3, kc7, kc15, kc16⟩)
          clear g0 g1 g2 g3 g4 g5 g6 g7 g8 g9 g10 g11 g12 g13 g14 g15 g16 kw1 kw2 kw3 kc7 kc15 kc16 hcells hd
          refine wpOpIn_of rfl rfl ?_
          simp only [List.cons_append, List.nil_append]
          gi_wp2
          obtain ⟨g0, g1, g2, g3, g4, g5, g6, g7, g8, g9, g10, g11, g12, g13, g14, g15, g16, kw1, kw2, kw3, kc7, kc15, kc16⟩ := HH.out
          exact ⟨_, _, _, _, _, _, _, _, _, _, _, _, _, _, _, _, _, rfl, (fun h => g0 (by simpa using h)), (fun h => g1 (by simpa using h)), (fun h => g2 (by simpa using h)), (fun h => g3 (by simpa using h)), (fun h => g4 (by simpa using h)), (fun h => g5 (by simpa using h)), (fun h => g6 (by simpa using h)), (fun h => g7 (by simpa using h)), (fun h => g8 (by simpa using h)), (fun _ => rfl), (fun h => g10 (by simpa using h)), (fun h => g11 (by simpa using h)), (fun h => g12 (by simpa using h)), (fun h => g13 (by simpa using h)), (fun h => g14 (by simpa using h)), (fun h => g15 (by simpa using h)), (fun h => g16 (by simpa using h)), (fun h => kw1 (by simpa using h)), (fun h h2 => kw2 (by simpa using h) (by simpa using h2)), (fun h => kw3 (by simpa using h)), (fun h => ⟨by have := (kc7 (by simpa using h)).1; simpa using this, by have := (kc7 (by simpa using h)).2.1; simpa using this, by have := (kc7 (by simpa using h)).2.2.1; simpa using this, by have := (kc7 (by simpa using h)).2.2.2; simpa using this⟩), (fun h => ⟨by have := (kc15 (by simpa using h)).1; simpa using this, by have := (kc15 (by simpa using h)).2.1; simpa using this, by have := (kc15 (by simpa using h)).2.2.1; simpa using this, by have := (kc15 (by simpa using h)).2.2.2.1; simpa using this, by have := (kc15 (by simpa using h)).2.2.2.2; simpa using this⟩), (fun h => (by have := (kc16 (by simpa using h)); simpa using this))⟩
        · have ho : _ = o9 := Option.some.inj ho
          subst ho
          have d9 : G 9 = true := hd ⟨9, .data⟩ (by simp) rfl
          obtain rfl := g9 d9
          have h15 : G 15 = false := by cases h : G 15 with | false => rfl | true => rw [(kc15 h).2.1] at hG; cases hG
          obtain ⟨q1, q2, q3, q4, q5⟩ := hcells h15
          have HH := hid (show _ ∧ _ ∧ _ ∧ _ ∧ _ ∧ _ ∧ _ ∧ _ ∧ _ ∧ _ ∧ _ ∧ _ ∧ _ ∧ _ ∧ _ ∧ _ ∧ _ ∧ _ ∧ _ ∧ _ ∧ _ ∧ _ ∧ _ from ⟨g0, g1, g2, g3, g4, g5, g6, g7, g8, g9, g10, g11, g12, g13, g14, g15, g16, kw1, kw2, kw3, kc7, kc15, kc16⟩)
          clear g0 g1 g2 g3 g4 g5 g6 g7 g8 g9 g10 g11 g12 g13 g14 g15 g16 kw1 kw2 kw3 kc7 kc15 kc16 hcells hd
          refine wpOpIn_of rfl rfl ?_
          simp only [List.cons_append, List.nil_append]
          gi_wp2
          obtain ⟨g0, g1, g2, g3, g4, g5, g6, g7, g8, g9, g10, g11, g12, g13, g14, g15, g16, kw1, kw2, kw3, kc7, kc15, kc16⟩ := HH.out
          exact ⟨_, _, _, _, _, _, _, _, _, _, _, _, _, _, _, _, _, rfl, (fun h => g0 (by simpa using h)), (fun h => g1 (by simpa using h)), (fun h => g2 (by simpa using h)), (fun h => g3 (by simpa using h)), (fun h => g4 (by simpa using h)), (fun h => g5 (by simpa using h)), (fun h => g6 (by simpa using h)), (fun h => g7 (by simpa using h)), (fun h => g8 (by simpa using h)), (fun _ => rfl), (fun _ => rfl), (fun h => g11 (by simpa using h)), (fun h => g12 (by simpa using h)), (fun h => g13 (by simpa using h)), (fun h => g14 (by simpa using h)), (fun h => g15 (by simpa using h)), (fun h => g16 (by simpa using h)), (fun h => kw1 (by simpa using h)), (fun h h2 => kw2 (by simpa using h) (by simpa using h2)), (fun h => kw3 (by simpa using h)), (fun h => ⟨by have := (kc7 (by simpa using h)).1; simpa using this, by have := (kc7 (by simpa using h)).2.1; simpa using this, by have := (kc7 (by simpa using h)).2.2.1; simpa using this, by have := (kc7 (by simpa using h)).2.2.2; simpa using this⟩), (fun h => ⟨by have := (kc15 (by simpa using h)).1; simpa using this, by simp, by have := (kc15 (by simpa using h)).2.2.1; simpa using this, by have := (kc15 (by simpa using h)).2.2.2.1; simpa using this, by have := (kc15 (by simpa using h)).2.2.2.2; simpa using this⟩), (fun h => (by have := (kc16 (by simpa using h)); simpa using this))⟩
        · have ho : _ = o9 := Option.some.inj ho
          subst ho
          have HH := hid (show _ ∧ _ ∧ _ ∧ _ ∧ _ ∧ _ ∧ _ ∧ _ ∧ _ ∧ _ ∧ _ ∧ _ ∧ _ ∧ _ ∧ _ ∧ _ ∧ _ ∧ _ ∧ _ ∧ _ ∧ _ ∧ _ ∧ _ from ⟨g0, g1, g2, g3, g4, g5, g6, g7, g8, g9, g10, g11, g12, g13, g14, g15, g16, kw1, kw2, kw3, kc7, kc15, kc16⟩)
          clear g0 g1 g2 g3 g4 g5 g6 g7 g8 g9 g10 g11 g12 g13 g14 g15 g16 kw1 kw2 kw3 kc7 kc15 kc16 hcells hd
          refine wpOpIn_of rfl rfl ?_
          simp only [List.cons_append, List.nil_append]
          gi_wp2
          obtain ⟨g0, g1, g2, g3, g4, g5, g6, g7, g8, g9, g10, g11, g12, g13, g14, g15, g16, kw1, kw2, kw3, kc7, kc15, kc16⟩ := HH.out
          exact ⟨_, _, _, _, _, _, _, _, _, _, _, _, _, _, _, _, _, rfl, (fun h => g0 (by simpa using h)), (fun h => g1 (by simpa using h)), (fun h => g2 (by simpa using h)), (fun h => g3 (by simpa using h)), (fun h => g4 (by simpa using h)), (fun h => g5 (by simpa using h)), (fun h => g6 (by simpa using h)), (fun h => g7 (by simpa using h)), (fun h => g8 (by simpa using h)), (fun h => g9 (by simpa using h)), (fun h => g10 (by simpa using h)), (fun _ => rfl), (fun h => g12 (by simpa using h)), (fun h => g13 (by simpa using h)), (fun h => g14 (by simpa using h)), (fun h => g15 (by simpa using h)), (fun h => g16 (by simpa using h)), (fun h => kw1 (by simpa using h)), (fun h h2 => kw2 (by simpa using h) (by simpa using h2)), (fun h => kw3 (by simpa using h)), (fun h => ⟨by have := (kc7 (by simpa using h)).1; simpa using this, by have := (kc7 (by simpa using h)).2.1; simpa using this, by have := (kc7 (by simpa using h)).2.2.1; simpa using this, by have := (kc7 (by simpa using h)).2.2.2; simpa using this⟩), (fun h => ⟨by have := (kc15 (by simpa using h)).1; simpa using this, by have := (kc15 (by simpa using h)).2.1; simpa using this, by have := (kc15 (by simpa using h)).2.2.1; simpa using this, by have := (kc15 (by simpa using h)).2.2.2.1; simpa using this, by have := (kc15 (by simpa using h)).2.2.2.2; simpa using this⟩), (fun h => (by have := (kc16 (by simpa using h)); simpa using this))⟩
        · have ho : _ = o9 := Option.some.inj ho
          subst ho
          have d11 : G 11 = true := hd ⟨11, .data⟩ (by simp) rfl
          obtain rfl := g11 d11
          have h15 : G 15 = false := by cases h : G 15 with | false => rfl | true => rw [(kc15 h).2.2.1] at hG; cases hG
          obtain ⟨q1, q2, q3, q4, q5⟩ := hcells h15
          have HH := hid (show _ ∧ _ ∧ _ ∧ _ ∧ _ ∧ _ ∧ _ ∧ _ ∧ _ ∧ _ ∧ _ ∧ _ ∧ _ ∧ _ ∧ _ ∧ _ ∧ _ ∧ _ ∧ _ ∧ _ ∧ _ ∧ _ ∧ _ from ⟨g0, g1, g2, g3, g4, g5, g6, g7, g8, g9, g10, g11, g12, g13, g14, g15, g16, kw1, kw2, kw3, kc7, kc15, kc16⟩)
          clear g0 g1 g2 g3 g4 g5 g6 g7 g8 g9 g10 g11 g12 g13 g14 g15 g16 kw1 kw2 kw3 kc7 kc15 kc16 hcells hd
          refine wpOpIn_of rfl rfl ?_
          simp only [List.cons_append, List.nil_append]
          gi_wp2
          obtain ⟨g0, g1, g2, g3, g4, g5, g6, g7, g8, g9, g10, g11, g12, g13, g14, g15, g16, kw1, kw2, kw3, kc7, kc15, kc16⟩ := HH.out
          exact ⟨_, _, _, _, _, _, _, _, _, _, _, _, _, _, _, _, _, rfl, (fun h => g0 (by simpa using h)), (fun h => g1 (by simpa using h)), (fun h => g2 (by simpa using h)), (fun h => g3 (by simpa using h)), (fun h => g4 (by simpa using h)), (fun h => g5 (by simpa using h)), (fun h => g6 (by simpa using h)), (fun h => g7 (by simpa using h)), (fun h => g8 (by simpa using h)), (fun h => g9 (by simpa using h)), (fun h => g10 (by simpa using h)), (fun _ => rfl), (fun _ => rfl), (fun h => g13 (by simpa using h)), (fun h => g14 (by simpa using h)), (fun h => g15 (by simpa using h)), (fun h => g16 (by simpa using h)), (fun h => kw1 (by simpa using h)), (fun h h2 => kw2 (by simpa using h) (by simpa using h2)), (fun h => kw3 (by simpa using h)), (fun h => ⟨by have := (kc7 (by simpa using h)).1; simpa using this, by have := (kc7 (by simpa using h)).2.1; simpa using this, by have := (kc7 (by simpa using h)).2.2.1; simpa using this, by have := (kc7 (by simpa using h)).2.2.2; simpa using this⟩), (fun h => ⟨by have := (kc15 (by simpa using h)).1; simpa using this, by have := (kc15 (by simpa using h)).2.1; simpa using this, by simp, by have := (kc15 (by simpa using h)).2.2.2.1; simpa using this, by have := (kc15 (by simpa using h)).2.2.2.2; simpa using this⟩), (fun h => (by have := (kc16 (by simpa using h)); simpa using this))⟩
        · have ho : _ = o9 := Option.some.inj ho
          subst ho
          have HH := hid (show _ ∧ _ ∧ _ ∧ _ ∧ _ ∧ _ ∧ _ ∧ _ ∧ _ ∧ _ ∧ _ ∧ _ ∧ _ ∧ _ ∧ _ ∧ _ ∧ _ ∧ _ ∧ _ ∧ _ ∧ _ ∧ _ ∧ _ from ⟨g0, g1, g2, g3, g4, g5, g6, g7, g8, g9, g10, g11, g12, g13, g14, g15, g16, kw1, kw2, kw3, kc7, kc15, kc16⟩)
          clear g0 g1 g2 g3 g4 g5 g6 g7 g8 g9 g10 g11 g12 g13 g14 g15 g16 kw1 kw2 kw3 kc7 kc15 kc16 hcells hd
          refine wpOpIn_of rfl rfl ?_
          simp only [List.cons_append, List.nil_append]
          gi_wp2
          obtain ⟨g0, g1, g2, g3, g4, g5, g6, g7, g8, g9, g10, g11, g12, g13, g14, g15, g16, kw1, kw2, kw3, kc7, kc15, kc16⟩ := HH.out
          exact ⟨_, _, _, _, _, _, _, _, _, _, _, _, _, _, _, _, _, rfl, (fun h => g0 (by simpa using h)), (fun h => g1 (by simpa using h)), (fun h => g2 (by simpa using h)), (fun h => g3 (by simpa using h)), (fun h => g4 (by simpa using h)), (fun h => g5 (by simpa using h)), (fun h => g6 (by simpa using h)), (fun h => g7 (by simpa using h)), (fun h => g8 (by simpa using h)), (fun h => g9 (by simpa using h)), (fun h => g10 (by simpa using h)), (fun h => g11 (by simpa using h)), (fun h => g12 (by simpa using h)), (fun _ => rfl), (fun h => g14 (by simpa using h)), (fun h => g15 (by simpa using h)), (fun h => g16 (by simpa using h)), (fun h => kw1 (by simpa using h)), (fun h h2 => kw2 (by simpa using h) (by simpa using h2)), (fun h => kw3 (by simpa using h)), (fun h => ⟨by have := (kc7 (by simpa using h)).1; simpa using this, by have := (kc7 (by simpa using h)).2.1; simpa using this, by have := (kc7 (by simpa using h)).2.2.1; simpa using this, by have := (kc7 (by simpa using h)).2.2.2; simpa using this⟩), (fun h => ⟨by have := (kc15 (by simpa using h)).1; simpa using this, by have := (kc15 (by simpa using h)).2.1; simpa using this, by have := (kc15 (by simpa using h)).2.2.1; simpa using this, by have := (kc15 (by simpa using h)).2.2.2.1; simpa using this, by have := (kc15 (by simpa using h)).2.2.2.2; simpa using this⟩), (fun h => (by have := (kc16 (by simpa using h)); simpa using this))⟩
        · have ho : _ = o9 := Option.some.inj ho
          subst ho
          have d13 : G 13 = true := hd ⟨13, .data⟩ (by simp) rfl
          obtain rfl := g13 d13
          have h15 : G 15 = false := by cases h : G 15 with | false => rfl | true => rw [(kc15 h).2.2.2.1] at hG; cases hG
          obtain ⟨q1, q2, q3, q4, q5⟩ := hcells h15
          have HH := hid (show _ ∧ _ ∧ _ ∧ _ ∧ _ ∧ _ ∧ _ ∧ _ ∧ _ ∧ _ ∧ _ ∧ _ ∧ _ ∧ _ ∧ _ ∧ _ ∧ _ ∧ _ ∧ _ ∧ _ ∧ _ ∧ _ ∧ _ from ⟨g0, g1, g2, g3, g4, g5, g6, g7, g8, g9, g10, g11, g12, g13, g14, g15, g16, kw1, kw2, kw3, kc7, kc15, kc16⟩)
          clear g0 g1 g2 g3 g4 g5 g6 g7 g8 g9 g10 g11 g12 g13 g14 g15 g16 kw1 kw2 kw3 kc7 kc15 kc16 hcells hd
          refine wpOpIn_of rfl rfl ?_
          simp only [List.cons_append, List.nil_append]
          gi_wp2
          obtain ⟨g0, g1, g2, g3, g4, g5, g6, g7, g8, g9, g10, g11, g12, g13, g14, g15, g16, kw1, kw2, kw3, kc7, kc15, kc16⟩ := HH.out
          exact ⟨_, _, _, _, _, _, _, _, _, _, _, _, _, _, _, _, _, rfl, (fun h => g0 (by simpa using h)), (fun h => g1 (by simpa using h)), (fun h => g2 (by simpa using h)), (fun h => g3 (by simpa using h)), (fun h => g4 (by simpa using h)), (fun h => g5 (by simpa using h)), (fun h => g6 (by simpa using h)), (fun h => g7 (by simpa using h)), (fun h => g8 (by simpa using h)), (fun h => g9 (by simpa using h)), (fun h => g10 (by simpa using h)), (fun h => g11 (by simpa using h)), (fun h => g12 (by simpa using h)), (fun _ => rfl), (fun _ => rfl), (fun h => g15 (by simpa using h)), (fun h => g16 (by simpa using h)), (fun h => kw1 (by simpa using h)), (fun h h2 => kw2 (by simpa using h) (by simpa using h2)), (fun h => kw3 (by simpa using h)), (fun h => ⟨by have := (kc7 (by simpa using h)).1; simpa using this, by have := (kc7 (by simpa using h)).2.1; simpa using this, by have := (kc7 (by simpa using h)).2.2.1; simpa using this, by have := (kc7 (by simpa using h)).2.2.2; simpa using this⟩), (fun h => ⟨by have := (kc15 (by simpa using h)).1; simpa using this, by have := (kc15 (by simpa using h)).2.1; simpa using this, by have := (kc15 (by simpa using h)).2.2.1; simpa using this, by simp, by have := (kc15 (by simpa using h)).2.2.2.2; simpa using this⟩), (fun h => (by have := (kc16 (by simpa using h)); simpa using this))⟩
        · have ho : _ = o9 := Option.some.inj ho
          subst ho
          have d8 : G 8 = true := hd ⟨8, .data⟩ (by simp) rfl
          have d10 : G 10 = true := hd ⟨10, .data⟩ (by simp) rfl
          have d12 : G 12 = true := hd ⟨12, .data⟩ (by simp) rfl
          have d14 : G 14 = true := hd ⟨14, .data⟩ (by simp) rfl
          obtain rfl := g8 d8
          obtain rfl := g10 d10
          obtain rfl := g12 d12
          obtain rfl := g14 d14
          have d7 : G 7 = true := hd ⟨7, .chain⟩ (by simp) rfl
          have h16 : G 16 = false := by cases h : G 16 with | false => rfl | true => rw [kc16 h] at hG; cases hG
          have hmid := kw2 d7 hG
          have HH := hid (show _ ∧ _ ∧ _ ∧ _ ∧ _ ∧ _ ∧ _ ∧ _ ∧ _ ∧ _ ∧ _ ∧ _ ∧ _ ∧ _ ∧ _ ∧ _ ∧ _ ∧ _ ∧ _ ∧ _ ∧ _ ∧ _ ∧ _ from ⟨g0, g1, g2, g3, g4, g5, g6, g7, g8, g9, g10, g11, g12, g13, g14, g15, g16, kw1, kw2, kw3, kc7, kc15, kc16⟩)
          clear g0 g1 g2 g3 g4 g5 g6 g7 g8 g9 g10 g11 g12 g13 g14 g15 g16 kw1 kw2 kw3 kc7 kc15 kc16 hcells hd
          refine wpOpIn_of rfl rfl ?_
          simp only [List.cons_append, List.nil_append]
          gi_wp2
          refine ⟨trivial, (callsIn_wide.2 (C2.out _ hmid)).mono ?_⟩
          rintro e w10 ⟨rfl, hm10⟩
          have hm10 := hid hm10
          gi_wp2
          obtain ⟨g0, g1, g2, g3, g4, g5, g6, g7, g8, g9, g10, g11, g12, g13, g14, g15, g16, kw1, kw2, kw3, kc7, kc15, kc16⟩ := HH.out
          exact ⟨_, _, _, _, _, _, _, _, _, _, _, _, _, _, _, _, _, rfl, (fun h => g0 (by simpa using h)), (fun h => g1 (by simpa using h)), (fun h => g2 (by simpa using h)), (fun h => g3 (by simpa using h)), (fun h => g4 (by simpa using h)), (fun h => g5 (by simpa using h)), (fun h => g6 (by simpa using h)), (fun h => g7 (by simpa using h)), (fun _ => rfl), (fun h => g9 (by simpa using h)), (fun _ => rfl), (fun h => g11 (by simpa using h)), (fun _ => rfl), (fun h => g13 (by simpa using h)), (fun _ => rfl), (fun _ => rfl), (fun h => g16 (by simpa using h)), (fun h => by simp [d7] at h), (fun _ h => by simp at h), (fun _ => hm10.out), (fun h => ⟨by have := (kc7 (by simpa using h)).1; simpa using this, by have := (kc7 (by simpa using h)).2.1; simpa using this, by have := (kc7 (by simpa using h)).2.2.1; simpa using this, by have := (kc7 (by simpa using h)).2.2.2; simpa using this⟩), (fun h => ⟨by simp [d8], by simp [d10], by simp [d12], by simp [d14], by simp [d7]⟩), (fun h => (by simp))⟩
        · have ho : _ = o9 := Option.some.inj ho
          subst ho
          have d7 : G 7 = true := hd ⟨7, .data⟩ (by simp) rfl
          have d15 : G 15 = true := hd ⟨15, .data⟩ (by simp) rfl
          obtain rfl := g7 d7
          obtain rfl := g15 d15
          have HH := hid (show _ ∧ _ ∧ _ ∧ _ ∧ _ ∧ _ ∧ _ ∧ _ ∧ _ ∧ _ ∧ _ ∧ _ ∧ _ ∧ _ ∧ _ ∧ _ ∧ _ ∧ _ ∧ _ ∧ _ ∧ _ ∧ _ ∧ _ from ⟨g0, g1, g2, g3, g4, g5, g6, g7, g8, g9, g10, g11, g12, g13, g14, g15, g16, kw1, kw2, kw3, kc7, kc15, kc16⟩)
          clear g0 g1 g2 g3 g4 g5 g6 g7 g8 g9 g10 g11 g12 g13 g14 g15 g16 kw1 kw2 kw3 kc7 kc15 kc16 hcells hd
          refine wpOpIn_of rfl rfl ?_
          simp only [List.cons_append, List.nil_append]
          gi_wp2
          obtain ⟨g0, g1, g2, g3, g4, g5, g6, g7, g8, g9, g10, g11, g12, g13, g14, g15, g16, kw1, kw2, kw3, kc7, kc15, kc16⟩ := HH.out
          exact ⟨_, _, _, _, _, _, _, _, _, _, _, _, _, _, _, _, _, rfl, (fun h => g0 (by simpa using h)), (fun h => g1 (by simpa using h)), (fun h => g2 (by simpa using h)), (fun h => g3 (by simpa using h)), (fun h => g4 (by simpa using h)), (fun h => g5 (by simpa using h)), (fun h => g6 (by simpa using h)), (fun _ => rfl), (fun h => g8 (by simpa using h)), (fun h => g9 (by simpa using h)), (fun h => g10 (by simpa using h)), (fun h => g11 (by simpa using h)), (fun h => g12 (by simpa using h)), (fun h => g13 (by simpa using h)), (fun h => g14 (by simpa using h)), (fun _ => rfl), (fun _ => rfl), (fun h => kw1 (by simpa using h)), (fun h h2 => kw2 (by simpa using h) (by simpa using h2)), (fun h => kw3 (by simpa using h)), (fun h => ⟨by have := (kc7 (by simpa using h)).1; simpa using this, by have := (kc7 (by simpa using h)).2.1; simpa using this, by have := (kc7 (by simpa using h)).2.2.1; simpa using this, by have := (kc7 (by simpa using h)).2.2.2; simpa using this⟩), (fun h => ⟨by have := (kc15 (by simpa using h)).1; simpa using this, by have := (kc15 (by simpa using h)).2.1; simpa using this, by have := (kc15 (by simpa using h)).2.2.1; simpa using this, by have := (kc15 (by simpa using h)).2.2.2.1; simpa using this, by have := (kc15 (by simpa using h)).2.2.2.2; simpa using this⟩), (fun h => (by simp [d15]))⟩
    · obtain ⟨S, Q1, lv1, ps1, N1, v1, rs1, A1, B1, C1, D1⟩ := hS.out
      obtain ⟨h1, h16, rfl⟩ := B1.pow
      obtain ⟨a, ha⟩ : ∃ a : Nat, Hid (a = at_.toNat) := ⟨_, hid rfl⟩
      have hrt : All rest wr := A1.2.2.2.2.rest
      have eX : wr.heap[w1.heap.size]? = some (.cells [.pointer (some ⟨g, 0, none⟩)].toArray 23 (0, 0)) := hrt.blk (by rw [hrest.out]; simp)
      have eY : wr.heap[w2.heap.size]? = some (.cells [.pointer (some ⟨R, 0, none⟩)].toArray 27 (0, 0)) := hrt.blk (by rw [hrest.out]; simp)
      have eT : wr.heap[w.heap.size + 1]? = some (.cells [.int .i64 at_].toArray 3 (0, 0)) := hrt.blk (by rw [hrest.out]; simp)
      have cX1 : wr.cell? ⟨w1.heap.size, 0, none⟩ = some (.pointer (some ⟨g, 0, none⟩)) := by rw [cell_at eX]; rfl
      have cY1 : wr.cell? ⟨w2.heap.size, 0, none⟩ = some (.pointer (some ⟨R, 0, none⟩)) := by rw [cell_at eY]; rfl
      have cT1 : wr.cell? ⟨w.heap.size + 1, 0, none⟩ = some (.int .i64 at_) := by rw [cell_at eT]; rfl
      have lX := lt_of_cell cX1
      have lY := lt_of_cell cY1
      have lT := lt_of_cell cT1
      have A2 := ((A1.addBlk [.pointer (some ⟨g, 0, none⟩)] 23).addBlk [.int .i64 (a : Int)] 3).addBlk [.func (.func 39) #[] #[.pointer (some ⟨wr.heap.size, 0, none⟩), .pointer (some ⟨wr.heap.size + 1, 0, none⟩)]] 47
      simp only [World.size_alloc] at A2
      obtain ⟨rest2, hrest2⟩ : ∃ rest2, Hid (rest2 = blkC (wr.heap.size + 1 + 1) [.func (.func 39) #[] #[.pointer (some ⟨wr.heap.size, 0, none⟩), .pointer (some ⟨wr.heap.size + 1, 0, none⟩)]] 47 :: blkC (wr.heap.size + 1) [.int .i64 (a : Int)] 3 :: blkC wr.heap.size [.pointer (some ⟨g, 0, none⟩)] 23 :: rest) := ⟨_, hid rfl⟩
      have A3 : All (refL R v1 rs1 ++ (poolC Q1 :: blkC g (bookL m (2 ^ h1) ps1) 70 :: rest2)) (((wr.alloc (.cells #[.pointer (some ⟨g, 0, none⟩)] 23)).alloc (.cells #[.int .i64 (a : Int)] 3)).alloc (.cells #[.func (.func 39) #[] #[.pointer (some ⟨wr.heap.size, 0, none⟩), .pointer (some ⟨wr.heap.size + 1, 0, none⟩)]] 47)) := by
        refine A2.perm ?_
        rw [hrest2.out]
        have q1 : ∀ (l : List Comp) (x y z p b : Comp) (r : List Comp), (x :: y :: z :: p :: b :: (l ++ r)).Perm (l ++ (p :: b :: x :: y :: z :: r)) := fun l x y z p b r => by
          have h1 : (x :: y :: z :: p :: b :: (l ++ r)).Perm (p :: b :: x :: y :: z :: (l ++ r)) := List.perm_append_comm (l₁ := [x, y, z]) (l₂ := [p, b]) |>.append_right _
          refine h1.trans ?_
          have h2 : (l ++ (p :: b :: x :: y :: z :: r)).Perm ([p, b, x, y, z] ++ (l ++ r)) := by
            have := (List.perm_append_comm (l₁ := l) (l₂ := [p, b, x, y, z])).append_right r
            simpa using this
          exact h2.symm
        exact q1 _ _ _ _ _ _ _
      have RS1 := hid (rSince_all (at_ := at_) A3 C1 HM.out.2 (fun i => (B1.cap i).2))
      rw [← ha.out] at RS1
      have hb3 : Below wr.heap.size wr (((wr.alloc (.cells #[.pointer (some ⟨g, 0, none⟩)] 23)).alloc (.cells #[.int .i64 (a : Int)] 3)).alloc (.cells #[.func (.func 39) #[] #[.pointer (some ⟨wr.heap.size, 0, none⟩), .pointer (some ⟨wr.heap.size + 1, 0, none⟩)]] 47)) := (((Below.refl _ wr).alloc (Nat.le_refl _) _).alloc (by simp) _).alloc (by simp; omega) _
      have cY3 : (((wr.alloc (.cells #[.pointer (some ⟨g, 0, none⟩)] 23)).alloc (.cells #[.int .i64 (a : Int)] 3)).alloc (.cells #[.func (.func 39) #[] #[.pointer (some ⟨wr.heap.size, 0, none⟩), .pointer (some ⟨wr.heap.size + 1, 0, none⟩)]] 47)).cell? ⟨w2.heap.size, 0, none⟩ = some (.pointer (some ⟨R, 0, none⟩)) := cell_under hb3 lY cY1
      have cT3 : (((wr.alloc (.cells #[.pointer (some ⟨g, 0, none⟩)] 23)).alloc (.cells #[.int .i64 (a : Int)] 3)).alloc (.cells #[.func (.func 39) #[] #[.pointer (some ⟨wr.heap.size, 0, none⟩), .pointer (some ⟨wr.heap.size + 1, 0, none⟩)]] 47)).cell? ⟨w.heap.size + 1, 0, none⟩ = some (.int .i64 at_) := cell_under hb3 lT cT1
      have HA3 := hid A3
      have HB1 := hid B1
      have HC1 := hid C1
      clear A1 A2 A3 B1 C1 D1 hrt eX eY eT hS P2 cX
      gi_wp2
      refine ⟨trivial, (callsIn_wide.2 (Since_any (g := g) (at_ := at_) ha)).mono ?_⟩
      rintro e w3 ⟨rfl, rfl⟩
      gi_wp2
      refine ⟨trivial, (callsIn_wide.2 RS1.out).mono ?_⟩
      rintro e w4 ⟨ao4, c4, zs4, rfl, hk4, A4⟩
      obtain ⟨zl4, hzl4⟩ : ∃ zl4, Hid (zl4 = zs4.length) := ⟨_, hid rfl⟩
      have A5 := ((A4.addBlk [.slice ao4 zs4.length c4] 37).addBlk [.int .i64 0] 3)
      simp only [World.size_alloc] at A5
      have eS : ((w4.alloc (.cells #[.slice ao4 zl4 c4] 37)).alloc (.cells #[.int .i64 0] 3)).cell? ⟨wr.heap.size + 1 + 1, 0, none⟩ = some (.func (.func 39) #[] #[.pointer (some ⟨wr.heap.size, 0, none⟩), .pointer (some ⟨wr.heap.size + 1, 0, none⟩)]) := by
        have := A5.blk (g := wr.heap.size + 1 + 1) (vs := [.func (.func 39) #[] #[.pointer (some ⟨wr.heap.size, 0, none⟩), .pointer (some ⟨wr.heap.size + 1, 0, none⟩)]]) (t := 47) (by simp [gathL, hrest2.out])
        rw [hzl4.out, cell_at this]; rfl
      have lw4 : wr.heap.size + 1 + 1 < w4.heap.size := (Array.getElem?_eq_some_iff.1 (A4.blk (g := wr.heap.size + 1 + 1) (vs := [.func (.func 39) #[] #[.pointer (some ⟨wr.heap.size, 0, none⟩), .pointer (some ⟨wr.heap.size + 1, 0, none⟩)]]) (t := 47) (by simp [gathL, hrest2.out]))).1
      rw [← hzl4.out] at A5 ⊢
      have HA5 := hid A5
      have HK4 := hid hk4
      clear A4 A5 hk4 RS1
      obtain ⟨bfix, hbfix⟩ : ∃ bfix, Hid (bfix = blkC w4.heap.size [.slice ao4 zl4 c4] 37 :: rowC 51 3 (.slice ao4 zl4 c4) zs4.length (flatX zs4) :: (zs4.map datC ++ rest2)) := ⟨_, hid rfl⟩
      have PI : Hid (Pair Q1 g R m (blkC (w4.heap.size + 1) [.int .i64 0] 3 :: bfix) S ((w4.alloc (.cells #[.slice ao4 zl4 c4] 37)).alloc (.cells #[.int .i64 0] 3))) := hid ⟨Q1, 2 ^ h1, ps1, N1, v1, rs1, by
        refine HA5.out.perm ?_
        rw [hbfix.out]
        have := perm3 (blkC (w4.heap.size + 1) [.int .i64 0] 3 :: blkC w4.heap.size [.slice ao4 zl4 c4] 37 :: rowC 51 3 (.slice ao4 zl4 c4) zs4.length (flatX zs4) :: zs4.map datC) (refL R v1 rs1) [poolC Q1, blkC g (bookL m (2 ^ h1) ps1) 70] rest2
        simpa [gathL] using this, HB1.out, HC1.out, fun x hx => hx⟩
      have PA : Hid (All (poolC Q1 :: blkC g (bookL m (2 ^ h1) ps1) 70 :: (refL R v1 rs1 ++ (blkC (w4.heap.size + 1) [.int .i64 0] 3 :: bfix))) ((w4.alloc (.cells #[.slice ao4 zl4 c4] 37)).alloc (.cells #[.int .i64 0] 3))) := hid (by
        refine HA5.out.perm ?_
        rw [hbfix.out]
        have := perm3 (blkC (w4.heap.size + 1) [.int .i64 0] 3 :: blkC w4.heap.size [.slice ao4 zl4 c4] 37 :: rowC 51 3 (.slice ao4 zl4 c4) zs4.length (flatX zs4) :: zs4.map datC) (refL R v1 rs1) [poolC Q1, blkC g (bookL m (2 ^ h1) ps1) 70] rest2
        simpa [gathL] using this)
      have hsz5 : ((w4.alloc (.cells #[.slice ao4 zl4 c4] 37)).alloc (.cells #[.int .i64 0] 3)).heap.size = w4.heap.size + 1 + 1 := by simp
      gi_wp2
      generalize hW5 : ((w4.alloc (.cells #[.slice ao4 zl4 c4] 37)).alloc (.cells #[.int .i64 0] 3)) = w5 at PI PA hsz5 ⊢
      clear hW5 eS HA5
      have hbl : ∀ d ∈ bfix, ∀ k ∈ d.fp, k < w5.heap.size := fun d hd => (PI.out.rest.mem (by simp [hd])).2.2
      have b17 : w4.heap.size + 1 < w5.heap.size := by omega
      have PIw : Hid (w5.heap[w.heap.size + 1 + 1]? = some (.cells [.bool false].toArray 4 (0, 0))) := hid (PI.out.rest.blk (by rw [hbfix.out, hrest2.out, hrest.out]; simp))
      have HKB : Hid (∀ pre : List Xs, ∀ d ∈ (blkC (w4.heap.size + 1) [.int .i64 (pre.length : Int)] 3 :: bfix), ∀ k ∈ d.fp, k < w5.heap.size) := hid (fun pre d hd k hk => by
        rcases List.mem_cons.1 hd with rfl | hd
        · simp [blkC] at hk; omega
        · exact hbl d hd k hk)
      have FND : Hid (sel N1 (2 ^ h1) a (vis N1 a h1 1) = zs4.map Xs.key) := hid (by rw [HB1.out.foundAll, newS_n HB1.out.zero HB1.out.nlv]; exact HK4.out.symm)
      refine range_good (P := Try.prog) (n := 20) (by omega) (gf := 39) (lb := #[.pointer (some ⟨wr.heap.size, 0, none⟩), .pointer (some ⟨wr.heap.size + 1, 0, none⟩)]) rfl (enters_of Try.func39 (by kernel_rfl) rfl)
        (encs := fun x : Xs => #[x.enc]) (Kp := fun A B => A.heap.size ≤ B.heap.size ∧ ∀ T By l, Kept A T By (wr.heap.size + 1) (2 ^ h1) ps1 (pbOf Q1) l a → Kept B T By (wr.heap.size + 1) (2 ^ h1) ps1 (pbOf Q1) l a)
        (Fresh := fun pre x W0 W1 => x.Fresh W0 W1 ∧ (pre ++ [x]).map Xs.key <+: zs4.map Xs.key) (S := fun ys => ys.map Xs.key = zs4.map Xs.key) (Sp := fun ys => ys.map Xs.key <+: zs4.map Xs.key) (Nm := 128) ?seq
        (fun h k => ⟨Nat.le_trans h.1 k.1, fun T By l hT => k.2 T By l (h.2 T By l hT)⟩) (fun W l o o' h1 h2 => ⟨(KeepT.put (Ba := wr.heap.size + 1) W l o o' h1 h2).size, fun T By l' hT => hT.keep (pbOf_PB Q1) (KeepT.put W l o o' h1 h2)⟩) (fun _ => rfl)
        (fun pre W => ∃ S', Pair Q1 g R m (blkC (w4.heap.size + 1) [.int .i64 (pre.length : Int)] 3 :: bfix) S' W)
        (fun c pre W => False)
        (fun pre x W => (pre ++ [x]).map Xs.key <+: zs4.map Xs.key ∧ ∃ S', Pair Q1 g R m (datC x :: blkC (w4.heap.size + 1) [.int .i64 (pre.length : Int)] 3 :: bfix) S' W)
        (fun pre A C row hs hg hr => by
          obtain ⟨S', hP'⟩ := hs
          exact ⟨S', hP'.record hg hr (fun d hd => Or.inl (HKB.out pre d hd))⟩)
        (fun c s A C row hs hg hr => hs)
        (fun pre x A C row hs hg hr => by
          obtain ⟨hpx, S', hP'⟩ := hs
          refine ⟨hpx, S', hP'.record hg hr (fun d hd => ?_)⟩
          rcases List.mem_cons.1 hd with rfl | hd
          · exact Or.inr (rowC_cells (hP'.rest.mem (c := datC x) (by simp)).2.1)
          · exact Or.inl (HKB.out pre d hd))
        (fun pre x W0 W1 h => h.1.1) (fun pre x W0 W1 h hf => ⟨hf.2, h.choose, h.choose_spec.fresh hf.1⟩)
        ⟨S, PI.out⟩
        (fun x a' W => ∃ Bx, W.heap[Bx]? = some (.cells #[.int .i64 (x.num : Int), .int .i64 (x.at_ : Int), .slice x.ao x.len x.cap] 51 (0, 0)) ∧ a' = { tmps := #[Value.int IntKind.i64 ↑m, Value.slice ao xl c, Value.slice ao2 zl c2, Value.int IntKind.i64 at_, undef, undef, Value.pointer (some { block := w.heap.size, off := 0 }), Value.pointer (some { block := w.heap.size + 1, off := 0 }), Value.pointer (some { block := w.heap.size + 1 + 1, off := 0 }), Value.pointer (some { block := w1.heap.size, off := 0 }), Value.int IntKind.i64 0, Value.pointer (some { block := w2.heap.size, off := 0 }), Value.int IntKind.i64 0, undef, u14, Value.pointer (some { block := wr.heap.size + 1 + 1, off := 0 }), Value.pointer (some { block := w4.heap.size, off := 0 }), Value.pointer (some { block := w4.heap.size + 1, off := 0 }), Value.pointer (some { block := Bx, off := 0 }), undef, undef, undef, undef, Value.tuple #[Value.pointer (some { block := g, off := 0 }), Value.int IntKind.i64 0], Value.int IntKind.i64 ↑m, Value.tuple #[Value.pointer (some { block := g, off := 0 }), Value.int IntKind.i64 0], Value.pointer (some { block := g, off := 0 }), Value.int IntKind.i64 0, Value.tuple #[Value.pointer (some { block := R, off := 0 }), Value.int IntKind.i64 0], Value.int IntKind.i64 ↑m, Value.tuple #[Value.pointer (some { block := R, off := 0 }), Value.int IntKind.i64 0], Value.pointer (some { block := R, off := 0 }), Value.int IntKind.i64 0, Value.pointer (some { block := R, off := 0 }), Value.bool false, undef, undef, Value.int IntKind.i64 0, Value.bool false, Value.bool false, Value.pointer (some { block := g, off := 0 }), Value.bool false, Value.bool false, Value.slice ao xl c, Value.int IntKind.i64 ↑xl, Value.int IntKind.i64 ↑i, Value.bool false, u47, u48, u49, u50, u51, u52, u53, u54, u55, u56, u57, u58, u59, u60, u61, u62, u63, u64, u65, u66, Value.pointer (some { block := g, off := 0 }), Value.int IntKind.i64 at_, Value.func (Fn.func 39) #[] #[Value.pointer (some { block := wr.heap.size, off := 0 }), Value.pointer (some { block := wr.heap.size + 1, off := 0 })], Value.pointer (some { block := R, off := 0 }), Value.int IntKind.i64 at_, Value.slice ao4 zl4 c4, Value.func (Fn.func 39) #[] #[Value.pointer (some { block := wr.heap.size, off := 0 }), Value.pointer (some { block := wr.heap.size + 1, off := 0 })], Value.agg #[Value.int IntKind.i64 (x.num : Int), Value.int IntKind.i64 (x.at_ : Int), Value.slice x.ao x.len x.cap], undef, undef, undef, undef, undef, undef, undef, undef, undef, undef, undef, undef, undef, undef, undef, undef, undef, undef, undef, undef, undef, undef, undef, undef, undef, undef, undef, undef, undef, undef, undef, undef, undef, undef, undef, undef, undef, undef, undef, undef, undef, undef, undef, undef, undef, undef, undef, undef, undef, undef, undef, undef, undef, undef, undef, undef, undef, undef, undef, undef, undef, undef, undef, undef, undef, undef, undef, undef, undef, undef, undef, undef], defers := [] })
        (fun a' x A C row hs hg hr => by
          obtain ⟨Bx, h1, h2⟩ := hs
          refine ⟨Bx, (hg.block Bx (Array.getElem?_eq_some_iff.1 h1).1 (fun e => ?_)).trans h1, h2⟩
          obtain ⟨_, o, ho, hoc⟩ := hr Bx e.symm
          rw [h1] at ho; cases ho; cases hoc)
        ?assign ?body ?done ?stop
      case seq =>
        intro l J Jx W hbW hJ hY h0
        have hPA := PA.out.later hbW
        have hrt : All (blkC (w4.heap.size + 1) [.int .i64 0] 3 :: bfix) W := hPA.2.2.2.2.rest
        have eBb : W.heap[wr.heap.size]? = some (.cells [.pointer (some ⟨g, 0, none⟩)].toArray 23 (0, 0)) := hrt.blk (by rw [hbfix.out, hrest2.out]; simp)
        have eBa : W.heap[wr.heap.size + 1]? = some (.cells [.int .i64 (a : Int)].toArray 3 (0, 0)) := hrt.blk (by rw [hbfix.out, hrest2.out]; simp)
        have eg : W.heap[g]? = some (.cells (bookL m (2 ^ h1) ps1).toArray 70 (0, 0)) := hPA.blk (by simp)
        have hsq := since39 J Jx (fun A B => A.heap.size ≤ B.heap.size ∧ ∀ T By l, Kept A T By (wr.heap.size + 1) (2 ^ h1) ps1 (pbOf Q1) l a → Kept B T By (wr.heap.size + 1) (2 ^ h1) ps1 (pbOf Q1) l a) (fun T By A B h k => k.2 T By l h) (by rw [cell_at eBb]; rfl) (by rw [cell_at eBa]; rfl) eg (fun x hx => hPA.poolIn hx) HB1.out h16 hJ (fun pre x W0 W1 q1 q2 q3 q4 => hY pre x W0 W1 q1 ⟨q2, by rw [← FND.out]; exact q3⟩ q4) h0
        rw [FND.out] at hsq
        exact callsIn_wide.2 hsq
      case assign =>
        rintro l pre x W K ⟨hpx, S', hP'⟩ hK
        have HP := hid hP'
        have HK := hid hK
        have HPX := hid hpx
        clear hP' hK hpx
        simp only [Xs.enc]
        gi_wp2
        refine HK.out _ _ ⟨by simp, fun k o _ hk _ => (Below.heap_alloc _ _ _ (Array.getElem?_eq_some_iff.1 hk).1).trans hk⟩ ⟨by simp, fun T By l' hT => hT.below (ba W _)⟩ ⟨HPX.out, S', HP.out.later (ba W _)⟩ ⟨W.heap.size, heap_alloc_new W _, rfl⟩
      case body =>
        rintro l pre x a' W hl ⟨r, hr⟩ ⟨hpx, S', hP'⟩ ⟨Bx, hBx, rfl⟩ hlt
        have hrt := hP'.rest
        obtain ⟨z, hz, hzk⟩ : ∃ z, zs4[pre.length]? = some z ∧ z.key = x.key := by
          obtain ⟨tl, htl⟩ := hpx
          have h1 : (zs4.map Xs.key)[pre.length]? = some x.key := by rw [← htl]; simp
          rw [List.getElem?_map] at h1
          cases e : zs4[pre.length]? with
          | none => rw [e] at h1; cases h1
          | some z => rw [e] at h1; exact ⟨z, rfl, Option.some.inj h1⟩
        have hpz : pre.length < zl4 := by rw [hzl4.out]; exact (List.getElem?_eq_some_iff.1 hz).1
        have eI : W.heap[w4.heap.size + 1]? = some (.cells [.int .i64 (pre.length : Int)].toArray 3 (0, 0)) := hrt.blk (by simp)
        have eW : W.heap[w4.heap.size]? = some (.cells [.slice ao4 zl4 c4].toArray 37 (0, 0)) := hrt.blk (by rw [hbfix.out]; simp)
        have cI : W.cell? ⟨w4.heap.size + 1, 0, none⟩ = some (.int .i64 (pre.length : Int)) := by rw [cell_at eI]; rfl
        have cW : W.cell? ⟨w4.heap.size, 0, none⟩ = some (.slice ao4 zl4 c4) := by rw [cell_at eW]; rfl
        have x0 : W.cell? ⟨Bx, 0, none⟩ = some (.int .i64 (x.num : Int)) := by rw [cell_at hBx]; rfl
        have x1 : W.cell? ⟨Bx, 1, none⟩ = some (.int .i64 (x.at_ : Int)) := by rw [cell_at hBx]; rfl
        have x2 : W.cell? ⟨Bx, 2, none⟩ = some (.slice x.ao x.len x.cap) := by rw [cell_at hBx]; rfl
        obtain ⟨k, hk⟩ : ∃ k, Hid (k = pre.length) := ⟨_, hid rfl⟩
        rw [← hk.out] at cI hpz
        have hrw : W.ownsRow 0 51 3 (.slice ao4 zl4 c4) zs4.length (flatX zs4) := (hrt.mem (c := rowC 51 3 (.slice ao4 zl4 c4) zs4.length (flatX zs4)) (by rw [hbfix.out]; simp)).2.1
        rw [hzl4.out] at hrw
        obtain ⟨gw, hgw, lgw, z0, z1, z2⟩ := row_at hrw hz
        have hcap : zs4.length ≤ c4 := by
          rcases hrw.2 with ⟨e, e2⟩ | ⟨g', cap, cur, e, _, _, hn', _⟩
          · have := (List.getElem?_eq_some_iff.1 hz).1; omega
          · simp only [Value.slice.injEq] at e; omega
        subst hgw
        have zdat : W.ownsRow 0 5 1 z.v z.bs.length (cellsB z.bs) := (hrt.mem (c := datC z) (by rw [hbfix.out]; simp only [List.mem_cons, List.mem_append, List.mem_map]; exact .inr (.inr (.inr (.inr (.inl ⟨z, List.mem_of_getElem? hz, rfl⟩)))))).2.1
        have xdat : W.ownsRow 0 5 1 x.v x.bs.length (cellsB x.bs) := (hrt.mem (c := datC x) (by simp)).2.1
        have SM : Hid (Calls Try.prog 16 #[.slice (some ⟨W.heap.size, 0, none⟩) 1 1, .slice (some ⟨gw, k * 3, none⟩) 1 (c4 - k)] (W.drew.alloc (.cells #[.int .i64 (x.num : Int), .int .i64 (x.at_ : Int), .slice x.ao x.len x.cap] 51)) fun e w' => e = .returned (.bool true) ∧ ∃ q, w' = (W.drew.alloc (.cells #[.int .i64 (x.num : Int), .int .i64 (x.at_ : Int), .slice x.ao x.len x.cap] 51)).drewN q) := hid (by
          have hbW : Below W.heap.size W (W.drew.alloc (.cells #[.int .i64 (x.num : Int), .int .i64 (x.at_ : Int), .slice x.ao x.len x.cap] 51)) := (bd W).trans (ba W.drew _)
          refine lsame_eq (xs := [x]) (ys := [z]) (k := 1) (fun i y hy => ?_) (fun i y hy => ?_) (by simp [hzk]) rfl (by omega) ?_
          · obtain ⟨rfl, rfl⟩ : i = 0 ∧ x = y := by
              cases i with
              | zero => exact ⟨rfl, by simpa using hy⟩
              | succ n => simp at hy
            have en := heap_alloc_new W.drew (.cells #[.int .i64 (x.num : Int), .int .i64 (x.at_ : Int), .slice x.ao x.len x.cap] 51)
            exact ⟨W.heap.size, 0, rfl, (cell_at en 0).trans rfl, (cell_at en 1).trans rfl, (cell_at en 2).trans rfl, (Reads.of_owns xdat).below hbW⟩
          · obtain ⟨rfl, rfl⟩ : i = 0 ∧ z = y := by
              cases i with
              | zero => exact ⟨rfl, by simpa using hy⟩
              | succ n => simp at hy
            exact ⟨gw, k * 3, rfl, cell_under hbW lgw (by simpa [hk.out] using z0), cell_under hbW lgw (by simpa [hk.out] using z1), cell_under hbW lgw (by simpa [hk.out] using z2), (Reads.of_owns zdat).below hbW⟩
          · intro y hy
            obtain rfl : y = x := by simpa using hy
            have hm : z.key ∈ zs4.map Xs.key := List.mem_map.2 ⟨z, List.mem_of_getElem? hz, rfl⟩
            rw [HK4.out, hzk] at hm
            have e2 : (S y.num).2 = y.bs := (congrArg Prod.snd (newS_mem hm).2.2).symm
            have := (HB1.out.cap y.num).2
            rw [e2] at this
            exact this)
        have hk0 : (0 : Int) ≤ (k : Int) := by omega
        obtain ⟨k1, hk1⟩ : ∃ k1, Hid (k1 = k + 1) := ⟨_, hid rfl⟩
        have wk1 : IntKind.i64.wrap ((k : Int) + 1) = (k1 : Int) := by have := hk.out; rw [hk1.out, IntKind.wrap_i64]; omega
        have dk : ¬ (k : Int) ≥ (zl4 : Int) := by omega
        have dkb : decide (zl4 ≤ k) = false := by simp; omega
        have dkc : k < c4 := by have := hzl4.out; omega
        have dkd : ¬ c4 = k := by omega
        have dke : ¬ c4 - k = 0 := by omega
        have dkf : k1 - k = 1 := by rw [hk1.out]; omega
        have dkg : ((k1 : Int) - (k : Int)).toNat = 1 := by rw [hk1.out]; omega
        have dk1 : (k : Int) ≤ (k1 : Int) := by rw [hk1.out]; omega
        have dk2 : (k1 : Int) ≤ (c4 : Int) := by have := hzl4.out; rw [hk1.out]; omega
        have HP := hid hP'
        have HZ4 := hid hz
        have HZK := hid hzk
        clear hrt eI eW hP' hz hzk hpx hrw lgw z0 z1 z2 hcap zdat xdat
        gi_wp2
        refine region_inv (by kernel_rfl) (Inv18 [Value.int IntKind.i64 ↑m, Value.slice ao xl c, Value.slice ao2 zl c2, Value.int IntKind.i64 at_, undef, undef, Value.pointer (some { block := w.heap.size, off := 0 }), Value.pointer (some { block := w.heap.size + 1, off := 0 }), Value.pointer (some { block := w.heap.size + 1 + 1, off := 0 }), Value.pointer (some { block := w1.heap.size, off := 0 }), Value.int IntKind.i64 0, Value.pointer (some { block := w2.heap.size, off := 0 }), Value.int IntKind.i64 0, undef, u14, Value.pointer (some { block := wr.heap.size + 1 + 1, off := 0 }), Value.pointer (some { block := w4.heap.size, off := 0 }), Value.pointer (some { block := w4.heap.size + 1, off := 0 }), Value.pointer (some { block := Bx, off := 0 }), undef, undef, undef, undef, Value.tuple #[Value.pointer (some { block := g, off := 0 }), Value.int IntKind.i64 0], Value.int IntKind.i64 ↑m, Value.tuple #[Value.pointer (some { block := g, off := 0 }), Value.int IntKind.i64 0], Value.pointer (some { block := g, off := 0 }), Value.int IntKind.i64 0, Value.tuple #[Value.pointer (some { block := R, off := 0 }), Value.int IntKind.i64 0], Value.int IntKind.i64 ↑m, Value.tuple #[Value.pointer (some { block := R, off := 0 }), Value.int IntKind.i64 0], Value.pointer (some { block := R, off := 0 }), Value.int IntKind.i64 0, Value.pointer (some { block := R, off := 0 }), Value.bool false, undef, undef, Value.int IntKind.i64 0, Value.bool false, Value.bool false, Value.pointer (some { block := g, off := 0 }), Value.bool false, Value.bool false, Value.slice ao xl c, Value.int IntKind.i64 ↑xl, Value.int IntKind.i64 ↑i, Value.bool false, u47, u48, u49, u50, u51, u52, u53, u54, u55, u56, u57, u58, u59, u60, u61, u62, u63, u64, u65, u66, Value.pointer (some { block := g, off := 0 }), Value.int IntKind.i64 at_, Value.func (Fn.func 39) #[] #[Value.pointer (some { block := wr.heap.size, off := 0 }), Value.pointer (some { block := wr.heap.size + 1, off := 0 })], Value.pointer (some { block := R, off := 0 }), Value.int IntKind.i64 at_, Value.slice (some ⟨gw, 0, none⟩) zl4 c4, Value.func (Fn.func 39) #[] #[Value.pointer (some { block := wr.heap.size, off := 0 }), Value.pointer (some { block := wr.heap.size + 1, off := 0 })], Value.agg #[Value.int IntKind.i64 ↑x.num, Value.int IntKind.i64 ↑x.at_, Value.slice x.ao x.len x.cap]] [undef, undef, undef, undef, undef, undef, undef, undef, undef, undef, undef, undef, undef, undef, undef, undef, undef, undef, undef, undef, undef, undef, undef, undef, undef, undef, undef, undef, undef, undef, undef, undef, undef, undef, undef, undef, undef, undef, undef, undef, undef, undef, undef, undef, undef, undef, undef, undef, undef, undef, undef, undef, undef, undef, undef, undef, undef] (.int .i64 (k : Int)) (.slice (some ⟨gw, 0, none⟩) zl4 c4) (.int .i64 (zl4 : Int)) (.agg #[.int .i64 (x.num : Int), .int .i64 (x.at_ : Int), .slice x.ao x.len x.cap]) (.slice (some ⟨W.heap.size, 0, none⟩) 1 1) (.int .i64 (k1 : Int)) (.slice (some ⟨gw, k * 3, none⟩) 1 (c4 - k)) W (.cells #[.int .i64 (x.num : Int), .int .i64 (x.at_ : Int), .slice x.ao x.len x.cap] 51)) (lowB_spec (by kernel_rfl)) ?h0 ?hstep ?hdone
        case h0 => exact ⟨_, _, _, _, _, _, _, _, _, _, _, _, _, _, _, rfl, (fun h => by cases h), (fun h => by cases h), (fun h => by cases h), (fun h => by cases h), (fun h => by cases h), (fun h => by cases h), (fun h => by cases h), (fun h => by cases h), (fun h => by cases h), (fun h => by cases h), (fun h => by cases h), (fun h => by cases h), (fun h => by cases h), (fun h => by cases h), (fun h => by cases h), (fun _ => rfl), (fun h => by cases h), (fun h => by cases h), (fun h => by cases h), (fun h => by cases h), (fun h => by cases h), (fun h => by cases h), (fun h => by cases h), (fun h => by cases h), (fun h => by cases h), (fun h => by cases h), (fun h => by cases h), (fun h => by cases h)⟩
        case hdone =>
          rintro G ac w9 hG ⟨t0, t1, t2, t3, t4, t5, t6, t7, t8, t9, t10, t11, t12, t13, t14, rfl, g0, g1, g2, g3, g4, g5, g6, g7, g8, g9, g10, g11, g12, g13, g14, kw1, kw2, kw3, kc12, kc11, kc10, kc6, kc5, kc4, kc3, kc2, kc14, kc13⟩
          obtain rfl := g0 (hG 0 (by decide))
          obtain rfl := g1 (hG 1 (by decide))
          obtain rfl := g2 (hG 2 (by decide))
          obtain rfl := g3 (hG 3 (by decide))
          obtain rfl := g4 (hG 4 (by decide))
          obtain rfl := g5 (hG 5 (by decide))
          obtain rfl := g6 (hG 6 (by decide))
          obtain rfl := g7 (hG 7 (by decide))
          obtain rfl := g8 (hG 8 (by decide))
          obtain rfl := g9 (hG 9 (by decide))
          obtain rfl := g10 (hG 10 (by decide))
          obtain rfl := g11 (hG 11 (by decide))
          obtain rfl := g12 (hG 12 (by decide))
          obtain rfl := g13 (hG 13 (by decide))
          obtain rfl := g14 (hG 14 (by decide))
          obtain ⟨q9, hq9⟩ := kw3 (hG 12 (by decide))
          subst hq9
          clear g0 g1 g2 g3 g4 g5 g6 g7 g8 g9 g10 g11 g12 g13 g14 kw1 kw2 kw3 kc12 kc11 kc10 kc6 kc5 kc4 kc3 kc2 kc14 kc13 hG
          simp only [List.cons_append, List.nil_append]
          have hb9 : Below W.heap.size W ((W.drew.alloc (.cells #[.int .i64 (x.num : Int), .int .i64 (x.at_ : Int), .slice x.ao x.len x.cap] 51)).drewN q9) := ((bd W).trans (ba W.drew _)).trans ((bdN _ q9).mono (by simp))
          have P9 := HP.out.later hb9
          have eB9 := (hb9.block Bx (Array.getElem?_eq_some_iff.1 hBx).1).trans hBx
          obtain ⟨W9, hW9⟩ : ∃ W9, Hid (W9 = (W.drew.alloc (.cells #[.int .i64 (x.num : Int), .int .i64 (x.at_ : Int), .slice x.ao x.len x.cap] 51)).drewN q9) := ⟨_, hid rfl⟩
          rw [← hW9.out] at P9 eB9 hb9 ⊢
          have HP9 := hid P9
          have lI9 : W9.heap[w4.heap.size + 1]? = some (.cells [.int .i64 (pre.length : Int)].toArray 3 (0, 0)) := P9.rest.blk (by simp)
          have lL9 : W9.heap[w.heap.size]? = some (.cells [.slice ao2 zl c2].toArray 22 (0, 0)) := P9.rest.blk (by rw [hbfix.out, hrest2.out, hrest.out]; simp)
          have cI9 : W9.cell? ⟨w4.heap.size + 1, 0, none⟩ = some (.int .i64 (k : Int)) := by rw [cell_at lI9, hk.out]; rfl
          have cL9 : W9.cell? ⟨w.heap.size, 0, none⟩ = some (.slice ao2 zl c2) := by rw [cell_at lL9]; rfl
          have fI9 : W9.frozen? ⟨w4.heap.size + 1, 0, none⟩ = false := free_at lI9 0
          have HI9 := hid lI9
          clear P9 SM lI9 lL9 cI cW x0 x1 x2
          by_cases hkz : (k : Int) < (zl : Int)
          · have dkz : decide ((k : Int) < (zl : Int)) = true := by simp; omega
            have dkn : k < zl := by omega
            have P9 := HP9.out
            obtain ⟨Q9, F9, PA9, back9, keep9, out9⟩ := (P9.move (List.Perm.swap _ _ _)).aside
            have hbel : Below w.heap.size w W9 := P9.rest.into (by rw [hbfix.out, hrest2.out, hrest.out]; simp)
            obtain ⟨y, hyi⟩ : ∃ y, zs[k]? = some y := ⟨_, List.getElem?_eq_getElem (by rw [← hzl.out]; omega)⟩
            obtain ⟨b, o, rfl, hbl, hcell, hrd⟩ := HZ.out.at hbel hyi
            have hbw : b < W9.heap.size := Nat.lt_of_lt_of_le hbl hbel.size
            have c0 : W9.cell? ⟨b, o + k * 6, none⟩ = some (.int .i64 y.kind) := hcell 0 _ rfl
            have c1 := hcell 1 _ rfl
            have c2' := hcell 2 _ rfl
            have c3 := hcell 3 _ rfl
            have c4' := hcell 4 _ rfl
            have c5 := hcell 5 _ rfl
            have HRD : Hid (∀ wz, Below w.heap.size w wz → Reads wz (.slice y.d1 y.d2 y.d3) y.data) := hid (fun wz hz => by
              obtain ⟨_, _, _, _, _, h⟩ := HZ.out.at hz hyi
              exact h)
            clear hcell hyi
            have hPA := (show Pair Q9 g R m (blkC W9.heap.size [.int .i64 y.kind, .int .i64 y.book, .int .i64 y.num, .int .i64 y.at_, .slice y.d1 y.d2 y.d3, .slice y.l1 y.l2 y.l3] 39 :: [blkC (w4.heap.size + 1) [.int .i64 (pre.length : Int)] 3, oldC W9 F9]) S' (W9.alloc (.cells #[.int .i64 y.kind, .int .i64 y.book, .int .i64 y.num, .int .i64 y.at_, .slice y.d1 y.d2 y.d3, .slice y.l1 y.l2 y.l3] 39)) from PA9.add [.int .i64 y.kind, .int .i64 y.book, .int .i64 y.num, .int .i64 y.at_, .slice y.d1 y.d2 y.d3, .slice y.l1 y.l2 y.l3] 39)
            obtain ⟨E9, hE9⟩ : ∃ E9, Hid (E9 = putE m S' y.num y.at_ y.data) := ⟨_, hid rfl⟩
            obtain ⟨S9, hS9⟩ : ∃ S9, Hid (S9 = putS m S' y.num y.at_ y.data) := ⟨_, hid rfl⟩
            have eX9 : W9.heap[w1.heap.size]? = some (.cells [.pointer (some ⟨g, 0, none⟩)].toArray 23 (0, 0)) := P9.rest.blk (by rw [hbfix.out, hrest2.out, hrest.out]; simp)
            have eY9 : W9.heap[w2.heap.size]? = some (.cells [.pointer (some ⟨R, 0, none⟩)].toArray 27 (0, 0)) := P9.rest.blk (by rw [hbfix.out, hrest2.out, hrest.out]; simp)
            have oX9 : w1.heap.size ∉ F9 := out9 (blkC w1.heap.size [.pointer (some ⟨g, 0, none⟩)] 23) (by rw [hbfix.out, hrest2.out, hrest.out]; simp) _ (by simp [blkC])
            have oY9 : w2.heap.size ∉ F9 := out9 (blkC w2.heap.size [.pointer (some ⟨R, 0, none⟩)] 27) (by rw [hbfix.out, hrest2.out, hrest.out]; simp) _ (by simp [blkC])
            have rest9 : ∀ wz, All (blkC W9.heap.size [.int .i64 y.kind, .int .i64 y.book, .int .i64 y.num, .int .i64 y.at_, .slice y.d1 y.d2 y.d3, .slice y.l1 y.l2 y.l3] 39 :: [blkC (w4.heap.size + 1) [.int .i64 (pre.length : Int)] 3, oldC W9 F9]) wz → wz.cell? ⟨w1.heap.size, 0, none⟩ = some (.pointer (some ⟨g, 0, none⟩)) ∧ wz.cell? ⟨w2.heap.size, 0, none⟩ = some (.pointer (some ⟨R, 0, none⟩)) ∧ wz.cell? ⟨W9.heap.size, 2, none⟩ = some (.int .i64 y.num) ∧ wz.cell? ⟨W9.heap.size, 3, none⟩ = some (.int .i64 y.at_) ∧ wz.cell? ⟨W9.heap.size, 4, none⟩ = some (.slice y.d1 y.d2 y.d3) := fun wz hz => by
              have eA : wz.heap[W9.heap.size]? = some (.cells [.int .i64 y.kind, .int .i64 y.book, .int .i64 y.num, .int .i64 y.at_, .slice y.d1 y.d2 y.d3, .slice y.l1 y.l2 y.l3].toArray 39 (0, 0)) := hz.blk (by simp)
              have eX := hz.oldBlk (w := W9) (F := F9) (by simp) eX9 oX9
              have eY := hz.oldBlk (w := W9) (F := F9) (by simp) eY9 oY9
              exact ⟨by rw [cell_at eX]; rfl, by rw [cell_at eY]; rfl, by rw [cell_at eA]; rfl, by rw [cell_at eA]; rfl, by rw [cell_at eA]; rfl⟩
            obtain ⟨kX, kY, kA2, kA3, kA4⟩ := rest9 _ hPA.rest
            have MC := hid (fun wz (hz : PairM Q9 g R m (blkC W9.heap.size [.int .i64 y.kind, .int .i64 y.book, .int .i64 y.num, .int .i64 y.at_, .slice y.d1 y.d2 y.d3, .slice y.l1 y.l2 y.l3] 39 :: [blkC (w4.heap.size + 1) [.int .i64 (pre.length : Int)] 3, oldC W9 F9]) S' S9 wz) => rest9 wz hz.rest)
            have in9 : ∀ wz, All (blkC W9.heap.size [.int .i64 y.kind, .int .i64 y.book, .int .i64 y.num, .int .i64 y.at_, .slice y.d1 y.d2 y.d3, .slice y.l1 y.l2 y.l3] 39 :: [blkC (w4.heap.size + 1) [.int .i64 (pre.length : Int)] 3, oldC W9 F9]) wz → Below w.heap.size w wz := fun wz hz => by
              have f := hz.oldAt (w := W9) (F := F9) (by simp)
              exact ⟨f.os.trans hbel.os, f.tape.trans hbel.tape, f.output.trans hbel.output, Nat.le_trans hbel.size f.size, fun j hj => (f.block j (Nat.lt_of_lt_of_le hj hbel.size) (out9 (inC w) (by rw [hbfix.out, hrest2.out, hrest.out]; simp) j (by simp [inC]; exact hj))).trans (hbel.block j hj)⟩
            have hrd2 : Reads (W9.alloc (.cells #[.int .i64 y.kind, .int .i64 y.book, .int .i64 y.num, .int .i64 y.at_, .slice y.d1 y.d2 y.d3, .slice y.l1 y.l2 y.l3] 39)).drew (.slice y.d1 y.d2 y.d3) y.data := (hrd.below (ba W9 _)).drew
            have C1 := hid ((hPA.later (bd _)).putX (num := y.num) (at_ := y.at_) hrd2)
            rw [← hE9.out, ← hS9.out] at C1
            have C2 : Hid (∀ wz, PairM Q9 g R m (blkC W9.heap.size [.int .i64 y.kind, .int .i64 y.book, .int .i64 y.num, .int .i64 y.at_, .slice y.d1 y.d2 y.d3, .slice y.l1 y.l2 y.l3] 39 :: [blkC (w4.heap.size + 1) [.int .i64 (pre.length : Int)] 3, oldC W9 F9]) S' S9 wz → Calls Try.prog 13 #[.pointer (some ⟨R, 0, none⟩), .int .i64 y.num, .int .i64 y.at_, .slice y.d1 y.d2 y.d3] wz fun e w' => e = .returned (.int .i64 E9) ∧ Pair Q9 g R m (blkC W9.heap.size [.int .i64 y.kind, .int .i64 y.book, .int .i64 y.num, .int .i64 y.at_, .slice y.d1 y.d2 y.d3, .slice y.l1 y.l2 y.l3] 39 :: [blkC (w4.heap.size + 1) [.int .i64 (pre.length : Int)] 3, oldC W9 F9]) S9 w') := hid (fun wz hz => by
              rw [hE9.out]
              exact PairM.putY hz hS9.out P9.cap (HRD.out wz (in9 wz hz.rest)))
            have HIN9 := hid in9
            have HBK9 := hid back9
            have HKP9 := hid keep9
            have HOUT9 := hid out9
            have HPX9 := hid (And.intro eX9 eY9)
            clear P9 PA9 back9 keep9 out9 hbel rest9 in9 hPA hrd hrd2 eX9 eY9 oX9 oY9 HP
            gi_wp2
            refine region_inv (by kernel_rfl) (InvP [Value.int IntKind.i64 ↑m, Value.slice ao xl c, Value.slice (some { block := b, off := o }) zl c2, Value.int IntKind.i64 at_, undef, undef, Value.pointer (some { block := w.heap.size, off := 0 }), Value.pointer (some { block := w.heap.size + 1, off := 0 }), Value.pointer (some { block := w.heap.size + 1 + 1, off := 0 }), Value.pointer (some { block := w1.heap.size, off := 0 }), Value.int IntKind.i64 0, Value.pointer (some { block := w2.heap.size, off := 0 }), Value.int IntKind.i64 0, undef, u14, Value.pointer (some { block := wr.heap.size + 1 + 1, off := 0 }), Value.pointer (some { block := w4.heap.size, off := 0 }), Value.pointer (some { block := w4.heap.size + 1, off := 0 }), Value.pointer (some { block := Bx, off := 0 }), Value.pointer (some { block := W9.heap.size, off := 0 }), undef, undef, undef, Value.tuple #[Value.pointer (some { block := g, off := 0 }), Value.int IntKind.i64 0], Value.int IntKind.i64 ↑m, Value.tuple #[Value.pointer (some { block := g, off := 0 }), Value.int IntKind.i64 0], Value.pointer (some { block := g, off := 0 }), Value.int IntKind.i64 0, Value.tuple #[Value.pointer (some { block := R, off := 0 }), Value.int IntKind.i64 0], Value.int IntKind.i64 ↑m, Value.tuple #[Value.pointer (some { block := R, off := 0 }), Value.int IntKind.i64 0], Value.pointer (some { block := R, off := 0 }), Value.int IntKind.i64 0, Value.pointer (some { block := R, off := 0 }), Value.bool false, undef, undef, Value.int IntKind.i64 0, Value.bool false, Value.bool false, Value.pointer (some { block := g, off := 0 }), Value.bool false, Value.bool false, Value.slice ao xl c, Value.int IntKind.i64 ↑xl, Value.int IntKind.i64 ↑i, Value.bool false, u47, u48, u49, u50, u51, u52, u53, u54, u55, u56, u57, u58, u59, u60, u61, u62, u63, u64, u65, u66, Value.pointer (some { block := g, off := 0 }), Value.int IntKind.i64 at_, Value.func (Fn.func 39) #[] #[Value.pointer (some { block := wr.heap.size, off := 0 }), Value.pointer (some { block := wr.heap.size + 1, off := 0 })], Value.pointer (some { block := R, off := 0 }), Value.int IntKind.i64 at_, Value.slice (some { block := gw, off := 0 }) zl4 c4, Value.func (Fn.func 39) #[] #[Value.pointer (some { block := wr.heap.size, off := 0 }), Value.pointer (some { block := wr.heap.size + 1, off := 0 })], Value.agg #[Value.int IntKind.i64 ↑x.num, Value.int IntKind.i64 ↑x.at_, Value.slice x.ao x.len x.cap], Value.int IntKind.i64 ↑k, Value.slice (some { block := gw, off := 0 }) zl4 c4, Value.int IntKind.i64 ↑zl4, Value.bool false, Value.bool false, Value.agg #[Value.int IntKind.i64 ↑x.num, Value.int IntKind.i64 ↑x.at_, Value.slice x.ao x.len x.cap], Value.slice (some { block := W.heap.size, off := 0 }) 1 1, Value.slice (some { block := gw, off := 0 }) zl4 c4, Value.int IntKind.i64 ↑k, Value.int IntKind.i64 ↑k, Value.int IntKind.i64 ↑k1, Value.slice (some { block := gw, off := k * 3 }) 1 (c4 - k), Value.bool true, Value.bool false, Value.bool false, Value.int IntKind.i64 ↑k, Value.slice (some { block := b, off := o }) zl c2, Value.int IntKind.i64 ↑zl, Value.bool true, Value.slice (some { block := b, off := o }) zl c2, Value.int IntKind.i64 ↑k, Value.pointer (some { block := b, off := o + k * 6 }), Value.agg #[Value.int IntKind.i64 y.kind, Value.int IntKind.i64 y.book, Value.int IntKind.i64 y.num, Value.int IntKind.i64 y.at_, Value.slice y.d1 y.d2 y.d3, Value.slice y.l1 y.l2 y.l3]] [undef, undef, undef, undef, undef, undef, undef, undef, undef, undef, undef, undef, undef, undef, undef, undef, undef, undef, undef, undef, undef, undef, undef, undef, undef, undef, undef, undef, undef, undef, undef, undef] (.pointer (some ⟨g, 0, none⟩)) (.pointer (some ⟨R, 0, none⟩)) (.int .i64 y.num) (.int .i64 y.at_) (.slice y.d1 y.d2 y.d3) (.pointer (some ⟨W9.heap.size, 2, none⟩)) (.pointer (some ⟨W9.heap.size, 3, none⟩)) (.pointer (some ⟨W9.heap.size, 4, none⟩)) E9 (W9.alloc (.cells #[.int .i64 y.kind, .int .i64 y.book, .int .i64 y.num, .int .i64 y.at_, .slice y.d1 y.d2 y.d3, .slice y.l1 y.l2 y.l3] 39)) (PairM Q9 g R m (blkC W9.heap.size [.int .i64 y.kind, .int .i64 y.book, .int .i64 y.num, .int .i64 y.at_, .slice y.d1 y.d2 y.d3, .slice y.l1 y.l2 y.l3] 39 :: [blkC (w4.heap.size + 1) [.int .i64 (pre.length : Int)] 3, oldC W9 F9]) S' S9) (Pair Q9 g R m (blkC W9.heap.size [.int .i64 y.kind, .int .i64 y.book, .int .i64 y.num, .int .i64 y.at_, .slice y.d1 y.d2 y.d3, .slice y.l1 y.l2 y.l3] 39 :: [blkC (w4.heap.size + 1) [.int .i64 (pre.length : Int)] 3, oldC W9 F9]) S9)) (lowB_spec (by kernel_rfl)) ?mh0 ?mhstep ?mhdone
            case mh0 => exact ⟨_, _, _, _, _, _, _, _, _, _, _, _, _, _, _, _, _, rfl, (fun h => by cases h), (fun h => by cases h), (fun h => by cases h), (fun h => by cases h), (fun h => by cases h), (fun h => by cases h), (fun h => by cases h), (fun h => by cases h), (fun h => by cases h), (fun h => by cases h), (fun h => by cases h), (fun h => by cases h), (fun h => by cases h), (fun h => by cases h), (fun h => by cases h), (fun h => by cases h), (fun h => by cases h), (fun _ => rfl), (fun h => by cases h), (fun h => by cases h), (fun h => by cases h), (fun h => by cases h), (fun h => by cases h)⟩
            case mhdone =>
              rintro G ac w9 hG ⟨t0, t1, t2, t3, t4, t5, t6, t7, t8, t9, t10, t11, t12, t13, t14, t15, t16, rfl, g0, g1, g2, g3, g4, g5, g6, g7, g8, g9, g10, g11, g12, g13, g14, g15, g16, kw1, kw2, kw3, kc7, kc15, kc16⟩
              obtain rfl := g0 (hG 0 (by decide))
              obtain rfl := g1 (hG 1 (by decide))
              obtain rfl := g2 (hG 2 (by decide))
              obtain rfl := g3 (hG 3 (by decide))
              obtain rfl := g4 (hG 4 (by decide))
              obtain rfl := g5 (hG 5 (by decide))
              obtain rfl := g6 (hG 6 (by decide))
              obtain rfl := g7 (hG 7 (by decide))
              obtain rfl := g8 (hG 8 (by decide))
              obtain rfl := g9 (hG 9 (by decide))
              obtain rfl := g10 (hG 10 (by decide))
              obtain rfl := g11 (hG 11 (by decide))
              obtain rfl := g12 (hG 12 (by decide))
              obtain rfl := g13 (hG 13 (by decide))
              obtain rfl := g14 (hG 14 (by decide))
              obtain rfl := g15 (hG 15 (by decide))
              obtain rfl := g16 (hG 16 (by decide))
              have HF9 := hid (kw3 (hG 15 (by decide)))
              clear g0 g1 g2 g3 g4 g5 g6 g7 g8 g9 g10 g11 g12 g13 g14 g15 g16 kw1 kw2 kw3 kc7 kc15 kc16 hG
              simp only [List.cons_append, List.nil_append]
              clear kX kY kA2 kA3 kA4 C1 C2 MC
              have OLD : Hid (∀ (b : Nat) (vs : List Value) (t : TypeId) (cs : List Comp) (wz : World), blkC b vs t ∈ bfix → All cs wz → oldC W9 F9 ∈ cs → wz.heap[b]? = some (.cells vs.toArray t (0, 0))) := hid (fun b vs t cs wz hb hA ho => hA.oldBlk ho (HP9.out.rest.blk (List.mem_cons_of_mem _ (List.mem_cons_of_mem _ hb))) (HOUT9.out (blkC b vs t) (List.mem_cons_of_mem _ hb) b (by simp [blkC])))
              have mY : Hid (blkC w2.heap.size [.pointer (some ⟨R, 0, none⟩)] 27 ∈ bfix) := hid (by rw [hbfix.out, hrest2.out, hrest.out]; simp)
              have mT : Hid (blkC (w.heap.size + 1) [.int .i64 at_] 3 ∈ bfix) := hid (by rw [hbfix.out, hrest2.out, hrest.out]; simp)
              have mS : Hid (blkC (wr.heap.size + 1 + 1) [.func (.func 39) #[] #[.pointer (some ⟨wr.heap.size, 0, none⟩), .pointer (some ⟨wr.heap.size + 1, 0, none⟩)]] 47 ∈ bfix) := hid (by rw [hbfix.out, hrest2.out]; simp)
              obtain ⟨Q8, lv8, ps8, N8, v8, rs8, A8, B8, C8, D8⟩ := HF9.out
              obtain ⟨h8, h86, rfl⟩ := B8.pow
              have A8p : All (refL R v8 rs8 ++ (poolC Q8 :: blkC g (bookL m (2 ^ h8) ps8) 70 :: blkC W9.heap.size [.int .i64 y.kind, .int .i64 y.book, .int .i64 y.num, .int .i64 y.at_, .slice y.d1 y.d2 y.d3, .slice y.l1 y.l2 y.l3] 39 :: [blkC (w4.heap.size + 1) [.int .i64 (pre.length : Int)] 3, oldC W9 F9])) w9 := A8.perm ((List.Perm.cons _ List.perm_middle.symm).trans List.perm_middle.symm)
              have RS8 := hid (rSince_all (at_ := at_) A8p C8 HM.out.2 (fun i => (B8.cap i).2))
              rw [← ha.out] at RS8
              have eY8 := OLD.out _ _ _ _ _ mY.out A8 (by simp)
              have eT8 := OLD.out _ _ _ _ _ mT.out A8 (by simp)
              have cY8 : w9.cell? ⟨w2.heap.size, 0, none⟩ = some (.pointer (some ⟨R, 0, none⟩)) := by rw [cell_at eY8]; rfl
              have cT8 : w9.cell? ⟨w.heap.size + 1, 0, none⟩ = some (.int .i64 at_) := by rw [cell_at eT8]; rfl
              have HB8 := hid B8
              have HC8 := hid C8
              have HD8 := hid D8
              clear A8 A8p B8 C8 D8 eY8 eT8
              gi_wp2
              refine ⟨trivial, (CallsIn.inRound l (callsIn_wide.2 RS8.out)).mono ?_⟩
              rintro e wA ⟨ao8, c8, zs8, rfl, hk8, A9⟩
              obtain ⟨zl8, hzl8⟩ : ∃ zl8, Hid (zl8 = zs8.length) := ⟨_, hid rfl⟩
              have A10 := ((A9.addBlk [.slice ao8 zs8.length c8] 37).addBlk [.int .i64 0] 3)
              simp only [World.size_alloc] at A10
              have eS8 : ((wA.alloc (.cells #[.slice ao8 zl8 c8] 37)).alloc (.cells #[.int .i64 0] 3)).cell? ⟨wr.heap.size + 1 + 1, 0, none⟩ = some (.func (.func 39) #[] #[.pointer (some ⟨wr.heap.size, 0, none⟩), .pointer (some ⟨wr.heap.size + 1, 0, none⟩)]) := by
                have := OLD.out _ _ _ _ _ mS.out A10 (by simp [gathL])
                rw [hzl8.out, cell_at this]; rfl
              have lS8 : wr.heap.size + 1 + 1 < wA.heap.size := (Array.getElem?_eq_some_iff.1 (OLD.out _ _ _ _ _ mS.out A9 (by simp [gathL]))).1
              rw [← hzl8.out] at A10 ⊢
              have HA10 := hid A10
              have HK8 := hid hk8
              clear A9 A10 hk8 RS8
              obtain ⟨bfx, hbfx⟩ : ∃ bfx, Hid (bfx = blkC wA.heap.size [.slice ao8 zl8 c8] 37 :: rowC 51 3 (.slice ao8 zl8 c8) zs8.length (flatX zs8) :: (zs8.map datC ++ (blkC W9.heap.size [.int .i64 y.kind, .int .i64 y.book, .int .i64 y.num, .int .i64 y.at_, .slice y.d1 y.d2 y.d3, .slice y.l1 y.l2 y.l3] 39 :: [blkC (w4.heap.size + 1) [.int .i64 (pre.length : Int)] 3, oldC W9 F9]))) := ⟨_, hid rfl⟩
              have PA8 : Hid (All (poolC Q8 :: blkC g (bookL m (2 ^ h8) ps8) 70 :: (refL R v8 rs8 ++ (blkC (wA.heap.size + 1) [.int .i64 0] 3 :: bfx))) ((wA.alloc (.cells #[.slice ao8 zl8 c8] 37)).alloc (.cells #[.int .i64 0] 3))) := hid (by
                refine HA10.out.perm ?_
                rw [hbfx.out]
                have := perm3 (blkC (wA.heap.size + 1) [.int .i64 0] 3 :: blkC wA.heap.size [.slice ao8 zl8 c8] 37 :: rowC 51 3 (.slice ao8 zl8 c8) zs8.length (flatX zs8) :: zs8.map datC) (refL R v8 rs8) [poolC Q8, blkC g (bookL m (2 ^ h8) ps8) 70] (blkC W9.heap.size [.int .i64 y.kind, .int .i64 y.book, .int .i64 y.num, .int .i64 y.at_, .slice y.d1 y.d2 y.d3, .slice y.l1 y.l2 y.l3] 39 :: [blkC (w4.heap.size + 1) [.int .i64 (pre.length : Int)] 3, oldC W9 F9])
                simpa [gathL] using this)
              have PI8 : Hid (Pair Q8 g R m (blkC (wA.heap.size + 1) [.int .i64 0] 3 :: bfx) S9 ((wA.alloc (.cells #[.slice ao8 zl8 c8] 37)).alloc (.cells #[.int .i64 0] 3))) := hid ⟨Q8, 2 ^ h8, ps8, N8, v8, rs8, PA8.out, HB8.out, HC8.out, fun x hx => hx⟩
              have hszA : ((wA.alloc (.cells #[.slice ao8 zl8 c8] 37)).alloc (.cells #[.int .i64 0] 3)).heap.size = wA.heap.size + 1 + 1 := by simp
              gi_wp2
              generalize hW10 : ((wA.alloc (.cells #[.slice ao8 zl8 c8] 37)).alloc (.cells #[.int .i64 0] 3)) = w10 at PI8 PA8 hszA ⊢
              clear hW10 eS8 HA10
              have mB : Hid (blkC wr.heap.size [.pointer (some ⟨g, 0, none⟩)] 23 ∈ bfix) := hid (by rw [hbfix.out, hrest2.out]; simp)
              have mA : Hid (blkC (wr.heap.size + 1) [.int .i64 (a : Int)] 3 ∈ bfix) := hid (by rw [hbfix.out, hrest2.out]; simp)
              have mO : Hid (oldC W9 F9 ∈ bfx) := hid (by rw [hbfx.out]; simp)
              have PQ9 : Hid (Pair Q9 g R m ((blkC (wA.heap.size + 1) [.int .i64 0] 3 :: blkC wA.heap.size [.slice ao8 zl8 c8] 37 :: rowC 51 3 (.slice ao8 zl8 c8) zs8.length (flatX zs8) :: (zs8.map datC ++ [blkC W9.heap.size [.int .i64 y.kind, .int .i64 y.book, .int .i64 y.num, .int .i64 y.at_, .slice y.d1 y.d2 y.d3, .slice y.l1 y.l2 y.l3] 39, blkC (w4.heap.size + 1) [.int .i64 (pre.length : Int)] 3])) ++ [oldC W9 F9]) S9 w10) := hid ⟨Q8, 2 ^ h8, ps8, N8, v8, rs8, by
                have := PA8.out
                rw [hbfx.out] at this
                simpa using this, HB8.out, HC8.out, HD8.out⟩
              have KEEP := hid (HKP9.out _ _ _ PQ9.out)
              have hl10 : w10.heap[l]? = some (.loop r) := KEEP.out.2 l _ ((hb9.block l (Array.getElem?_eq_some_iff.1 hr).1).trans hr) (Or.inl rfl)
              have b21 : wA.heap.size + 1 < w10.heap.size := by omega
              have hbl8 : Hid (∀ d ∈ bfx, ∀ k ∈ d.fp, k < w10.heap.size) := hid (fun d hd => (PI8.out.rest.mem (by simp [hd])).2.2)
              have HKB8 : Hid (∀ pre8 : List Xs, ∀ d ∈ (blkC (wA.heap.size + 1) [.int .i64 (pre8.length : Int)] 3 :: bfx), ∀ k ∈ d.fp, k < w10.heap.size) := hid (fun pre8 d hd k hk => by
                rcases List.mem_cons.1 hd with rfl | hd
                · simp [blkC] at hk; omega
                · exact hbl8.out d hd k hk)
              have FND8 : Hid (sel N8 (2 ^ h8) a (vis N8 a h8 1) = zs8.map Xs.key) := hid (by rw [HB8.out.foundAll, newS_n HB8.out.zero HB8.out.nlv]; exact HK8.out.symm)
              refine range_goodN (P := Try.prog) (n := 20 - 1 - 1) hl10 (by omega) (gf := 39) (lb := #[.pointer (some ⟨wr.heap.size, 0, none⟩), .pointer (some ⟨wr.heap.size + 1, 0, none⟩)]) rfl (enters_of Try.func39 (by kernel_rfl) rfl)
                (encs := fun x : Xs => #[x.enc]) (Kp := (fun A B => A.heap.size ≤ B.heap.size ∧ ∀ T By l, Kept A T By (wr.heap.size + 1) (2 ^ h8) ps8 (pbOf Q8) l a → Kept B T By (wr.heap.size + 1) (2 ^ h8) ps8 (pbOf Q8) l a))
                (Fresh := fun pre8 xi W0 W1 => xi.Fresh W0 W1 ∧ (pre8 ++ [xi]).map Xs.key <+: zs8.map Xs.key) (S := fun ys => ys.map Xs.key = zs8.map Xs.key) (Sp := fun ys => ys.map Xs.key <+: zs8.map Xs.key) (Nm := 128) ?nseq
                (fun h k => ⟨Nat.le_trans h.1 k.1, fun T By l hT => k.2 T By l (h.2 T By l hT)⟩) (fun W l o o' h1 h2 => ⟨(KeepT.put (Ba := wr.heap.size + 1) W l o o' h1 h2).size, fun T By l' hT => hT.keep (pbOf_PB Q8) (KeepT.put W l o o' h1 h2)⟩) (fun _ => rfl)
                (fun pre8 V => Pair Q8 g R m (blkC (wA.heap.size + 1) [.int .i64 (pre8.length : Int)] 3 :: bfx) S9 V)
                (fun c pre8 V => False)
                (fun pre8 xi V => (pre8 ++ [xi]).map Xs.key <+: zs8.map Xs.key ∧ Pair Q8 g R m (datC xi :: blkC (wA.heap.size + 1) [.int .i64 (pre8.length : Int)] 3 :: bfx) S9 V)
                (fun pre8 A C row hs hg hr => hs.record hg hr (fun d hd => Or.inl (HKB8.out pre8 d hd)))
                (fun c s A C row hs hg hr => hs)
                (fun pre8 xi A C row hs hg hr => by
                  obtain ⟨hpx, hP'⟩ := hs
                  refine ⟨hpx, hP'.record hg hr (fun d hd => ?_)⟩
                  rcases List.mem_cons.1 hd with rfl | hd
                  · exact Or.inr (rowC_cells (hP'.rest.mem (c := datC xi) (by simp)).2.1)
                  · exact Or.inl (HKB8.out pre8 d hd))
                (fun pre8 xi W0 W1 h => h.1.1) (fun pre8 xi W0 W1 h hf => ⟨hf.2, h.fresh hf.1⟩)
                PI8.out
                (fun xi a' V => ∃ By, V.heap[By]? = some (.cells #[.int .i64 (xi.num : Int), .int .i64 (xi.at_ : Int), .slice xi.ao xi.len xi.cap] 51 (0, 0)) ∧ a' = { tmps := #[Value.int IntKind.i64 ↑m, Value.slice ao xl c, Value.slice (some { block := b, off := o }) zl c2, Value.int IntKind.i64 at_, undef, undef, Value.pointer (some { block := w.heap.size, off := 0 }), Value.pointer (some { block := w.heap.size + 1, off := 0 }), Value.pointer (some { block := w.heap.size + 1 + 1, off := 0 }), Value.pointer (some { block := w1.heap.size, off := 0 }), Value.int IntKind.i64 0, Value.pointer (some { block := w2.heap.size, off := 0 }), Value.int IntKind.i64 0, undef, u14, Value.pointer (some { block := wr.heap.size + 1 + 1, off := 0 }), Value.pointer (some { block := w4.heap.size, off := 0 }), Value.pointer (some { block := w4.heap.size + 1, off := 0 }), Value.pointer (some { block := Bx, off := 0 }), Value.pointer (some { block := W9.heap.size, off := 0 }), Value.pointer (some { block := wA.heap.size, off := 0 }), Value.pointer (some { block := wA.heap.size + 1, off := 0 }), Value.pointer (some { block := By, off := 0 }), Value.tuple #[Value.pointer (some { block := g, off := 0 }), Value.int IntKind.i64 0], Value.int IntKind.i64 ↑m, Value.tuple #[Value.pointer (some { block := g, off := 0 }), Value.int IntKind.i64 0], Value.pointer (some { block := g, off := 0 }), Value.int IntKind.i64 0, Value.tuple #[Value.pointer (some { block := R, off := 0 }), Value.int IntKind.i64 0], Value.int IntKind.i64 ↑m, Value.tuple #[Value.pointer (some { block := R, off := 0 }), Value.int IntKind.i64 0], Value.pointer (some { block := R, off := 0 }), Value.int IntKind.i64 0, Value.pointer (some { block := R, off := 0 }), Value.bool false, undef, undef, Value.int IntKind.i64 0, Value.bool false, Value.bool false, Value.pointer (some { block := g, off := 0 }), Value.bool false, Value.bool false, Value.slice ao xl c, Value.int IntKind.i64 ↑xl, Value.int IntKind.i64 ↑i, Value.bool false, u47, u48, u49, u50, u51, u52, u53, u54, u55, u56, u57, u58, u59, u60, u61, u62, u63, u64, u65, u66, Value.pointer (some { block := g, off := 0 }), Value.int IntKind.i64 at_, Value.func (Fn.func 39) #[] #[Value.pointer (some { block := wr.heap.size, off := 0 }), Value.pointer (some { block := wr.heap.size + 1, off := 0 })], Value.pointer (some { block := R, off := 0 }), Value.int IntKind.i64 at_, Value.slice (some { block := gw, off := 0 }) zl4 c4, Value.func (Fn.func 39) #[] #[Value.pointer (some { block := wr.heap.size, off := 0 }), Value.pointer (some { block := wr.heap.size + 1, off := 0 })], Value.agg #[Value.int IntKind.i64 ↑x.num, Value.int IntKind.i64 ↑x.at_, Value.slice x.ao x.len x.cap], Value.int IntKind.i64 ↑k, Value.slice (some { block := gw, off := 0 }) zl4 c4, Value.int IntKind.i64 ↑zl4, Value.bool false, Value.bool false, Value.agg #[Value.int IntKind.i64 ↑x.num, Value.int IntKind.i64 ↑x.at_, Value.slice x.ao x.len x.cap], Value.slice (some { block := W.heap.size, off := 0 }) 1 1, Value.slice (some { block := gw, off := 0 }) zl4 c4, Value.int IntKind.i64 ↑k, Value.int IntKind.i64 ↑k, Value.int IntKind.i64 ↑k1, Value.slice (some { block := gw, off := k * 3 }) 1 (c4 - k), Value.bool true, Value.bool false, Value.bool false, Value.int IntKind.i64 ↑k, Value.slice (some { block := b, off := o }) zl c2, Value.int IntKind.i64 ↑zl, Value.bool true, Value.slice (some { block := b, off := o }) zl c2, Value.int IntKind.i64 ↑k, Value.pointer (some { block := b, off := o + k * 6 }), Value.agg #[Value.int IntKind.i64 y.kind, Value.int IntKind.i64 y.book, Value.int IntKind.i64 y.num, Value.int IntKind.i64 y.at_, Value.slice y.d1 y.d2 y.d3, Value.slice y.l1 y.l2 y.l3], Value.pointer (some { block := g, off := 0 }), Value.pointer (some { block := W9.heap.size, off := 2 }), Value.int IntKind.i64 y.num, Value.pointer (some { block := W9.heap.size, off := 3 }), Value.int IntKind.i64 y.at_, Value.pointer (some { block := W9.heap.size, off := 4 }), Value.slice y.d1 y.d2 y.d3, Value.int IntKind.i64 E9, Value.pointer (some { block := R, off := 0 }), Value.pointer (some { block := W9.heap.size, off := 2 }), Value.int IntKind.i64 y.num, Value.pointer (some { block := W9.heap.size, off := 3 }), Value.int IntKind.i64 y.at_, Value.pointer (some { block := W9.heap.size, off := 4 }), Value.slice y.d1 y.d2 y.d3, Value.int IntKind.i64 E9, Value.bool false, Value.pointer (some { block := R, off := 0 }), Value.int IntKind.i64 at_, Value.slice ao8 zl8 c8, Value.func (Fn.func 39) #[] #[Value.pointer (some { block := wr.heap.size, off := 0 }), Value.pointer (some { block := wr.heap.size + 1, off := 0 })], Value.agg #[Value.int IntKind.i64 (xi.num : Int), Value.int IntKind.i64 (xi.at_ : Int), Value.slice xi.ao xi.len xi.cap], undef, undef, undef, undef, undef, undef, undef, undef, undef, undef, undef, undef, undef, undef, undef, undef, undef, undef, undef, undef, undef, undef, undef, undef, undef, undef, undef], defers := [] })
                (fun a' xi A C row hs hg hr => by
                  obtain ⟨By, h1, h2⟩ := hs
                  refine ⟨By, (hg.block By (Array.getElem?_eq_some_iff.1 h1).1 (fun e => ?_)).trans h1, h2⟩
                  obtain ⟨_, o, ho, hoc⟩ := hr By e.symm
                  rw [h1] at ho; cases ho; cases hoc)
                ?nassign ?nbody ?ndone ?nstop
              case nseq =>
                intro l8 J Jx V hbV hJ hY h0
                have hPA := PA8.out.later hbV
                have hrt : All (blkC (wA.heap.size + 1) [.int .i64 0] 3 :: bfx) V := hPA.2.2.2.2.rest
                have eBb := OLD.out _ _ _ _ _ mB.out hrt (List.mem_cons_of_mem _ mO.out)
                have eBa := OLD.out _ _ _ _ _ mA.out hrt (List.mem_cons_of_mem _ mO.out)
                have eg : V.heap[g]? = some (.cells (bookL m (2 ^ h8) ps8).toArray 70 (0, 0)) := hPA.blk (by simp)
                have hsq := since39 J Jx (fun A B => A.heap.size ≤ B.heap.size ∧ ∀ T By l, Kept A T By (wr.heap.size + 1) (2 ^ h8) ps8 (pbOf Q8) l a → Kept B T By (wr.heap.size + 1) (2 ^ h8) ps8 (pbOf Q8) l a) (fun T By A B h k => k.2 T By l8 h) (by rw [cell_at eBb]; rfl) (by rw [cell_at eBa]; rfl) eg (fun x hx => hPA.poolIn hx) HB8.out h86 hJ (fun pre x W0 W1 q1 q2 q3 q4 => hY pre x W0 W1 q1 ⟨q2, by rw [← FND8.out]; exact q3⟩ q4) h0
                rw [FND8.out] at hsq
                exact callsIn_wide.2 hsq
              case nassign =>
                rintro l8 pre8 xi V K ⟨hpx, hP'⟩ hK
                have HP' := hid hP'
                have HK' := hid hK
                have HPX8 := hid hpx
                clear hP' hK hpx
                simp only [Xs.enc]
                gi_wp2
                refine HK'.out _ _ ⟨by simp, fun k o _ hk _ => (Below.heap_alloc _ _ _ (Array.getElem?_eq_some_iff.1 hk).1).trans hk⟩ ⟨by simp, fun T By l' hT => hT.below (ba V _)⟩ ⟨HPX8.out, HP'.out.later (ba V _)⟩ ⟨V.heap.size, heap_alloc_new V _, rfl⟩
              case nstop =>
                rintro c pre8 V _ h
                exact h.elim
              case ndone =>
                rintro ys V hS hP'
                have hyl : ys.length = zl8 := by
                  have h1 := congrArg List.length hS
                  simp at h1
                  rw [hzl8.out]; exact h1
                have hrt := hP'.rest
                have eK : V.heap[wA.heap.size + 1]? = some (.cells [.int .i64 (ys.length : Int)].toArray 3 (0, 0)) := hrt.blk (by simp)
                have eW : V.heap[wA.heap.size]? = some (.cells [.slice ao8 zl8 c8].toArray 37 (0, 0)) := hrt.blk (by rw [hbfx.out]; simp)
                have eI : V.heap[w4.heap.size + 1]? = some (.cells [.int .i64 (pre.length : Int)].toArray 3 (0, 0)) := hrt.blk (by rw [hbfx.out]; simp)
                rw [hyl] at eK
                have cK : V.cell? ⟨wA.heap.size + 1, 0, none⟩ = some (.int .i64 (zl8 : Int)) := by rw [cell_at eK]; rfl
                have cW : V.cell? ⟨wA.heap.size, 0, none⟩ = some (.slice ao8 zl8 c8) := by rw [cell_at eW]; rfl
                have cI : V.cell? ⟨w4.heap.size + 1, 0, none⟩ = some (.int .i64 (k : Int)) := by rw [cell_at eI, hk.out]; rfl
                have fI : V.frozen? ⟨w4.heap.size + 1, 0, none⟩ = false := free_at eI 0
                have HPV := hid hP'
                clear hrt eK eW eI hP' hS hyl
                gi_wp2
                have P1 : Pair Q8 g R m [blkC (w4.heap.size + 1) [.int .i64 (pre.length : Int)] 3, oldC W9 F9] S9 V := HPV.out.sub (by
                  rw [hbfx.out]
                  refine .cons _ (.cons _ (.cons _ ?_))
                  exact (List.Sublist.cons _ (.refl _)).trans (List.sublist_append_right _ _))
                have P2 := (P1.setBox (.int .i64 (k1 : Int))).weak HD8.out
                have K2 := HKP9.out [blkC (w4.heap.size + 1) [.int .i64 (k1 : Int)] 3] _ _ P2
                have P3 := HBK9.out [blkC (w4.heap.size + 1) [.int .i64 (k1 : Int)] 3] _ _ P2
                have P4 : Pair Q1 g R m (blkC (w4.heap.size + 1) [.int .i64 (k1 : Int)] 3 :: bfix) S9 _ := P3.sub (.cons_cons _ (.cons _ (.refl _)))
                have eA : _ := P4.rest.blk (List.mem_cons_of_mem _ mA.out)
                refine ⟨⟨Nat.le_trans hb9.size K2.1, fun i o _ hi hc => K2.2 i o ((hb9.block i (Array.getElem?_eq_some_iff.1 hi).1).trans hi) (Or.inl hc)⟩, ⟨Nat.le_trans hb9.size K2.1, fun T By l' hT => ⟨?_, ?_, ?_, ?_⟩⟩, S9, ?_⟩
                · exact K2.2 T _ ((hb9.block T (Array.getElem?_eq_some_iff.1 hT.tb).1).trans hT.tb) (Or.inr ⟨_, _, _, rfl, Or.inl rfl⟩)
                · exact K2.2 By _ ((hb9.block By (Array.getElem?_eq_some_iff.1 hT.yb).1).trans hT.yb) (Or.inr ⟨_, _, _, rfl, Or.inr rfl⟩)
                · rw [cell_at eA]; rfl
                · exact fun z hz => P4.poolAt (pbOf_sub Q1 z hz)
                · have e1 : (k1 : Int) = ((pre ++ [x]).length : Int) := by rw [hk1.out, hk.out]; simp
                  rw [e1] at P4
                  rw [e1]
                  exact P4
              case nbody =>
                rintro l8 pre8 xi a' V hl8 ⟨r8, hr8⟩ ⟨hpx, hP'⟩ ⟨By, hBy, rfl⟩ hlt8
                have hrt := hP'.rest
                obtain ⟨z, hz, hzk⟩ : ∃ z, zs8[pre8.length]? = some z ∧ z.key = xi.key := by
                  obtain ⟨tl, htl⟩ := hpx
                  have h1 : (zs8.map Xs.key)[pre8.length]? = some xi.key := by rw [← htl]; simp
                  rw [List.getElem?_map] at h1
                  cases e : zs8[pre8.length]? with
                  | none => rw [e] at h1; cases h1
                  | some z => rw [e] at h1; exact ⟨z, rfl, Option.some.inj h1⟩
                have hpz : pre8.length < zl8 := by rw [hzl8.out]; exact (List.getElem?_eq_some_iff.1 hz).1
                have eI : V.heap[wA.heap.size + 1]? = some (.cells [.int .i64 (pre8.length : Int)].toArray 3 (0, 0)) := hrt.blk (by simp)
                have eW : V.heap[wA.heap.size]? = some (.cells [.slice ao8 zl8 c8].toArray 37 (0, 0)) := hrt.blk (by rw [hbfx.out]; simp)
                have cI : V.cell? ⟨wA.heap.size + 1, 0, none⟩ = some (.int .i64 (pre8.length : Int)) := by rw [cell_at eI]; rfl
                have cW : V.cell? ⟨wA.heap.size, 0, none⟩ = some (.slice ao8 zl8 c8) := by rw [cell_at eW]; rfl
                have x0 : V.cell? ⟨By, 0, none⟩ = some (.int .i64 (xi.num : Int)) := by rw [cell_at hBy]; rfl
                have x1 : V.cell? ⟨By, 1, none⟩ = some (.int .i64 (xi.at_ : Int)) := by rw [cell_at hBy]; rfl
                have x2 : V.cell? ⟨By, 2, none⟩ = some (.slice xi.ao xi.len xi.cap) := by rw [cell_at hBy]; rfl
                obtain ⟨k8, hk8⟩ : ∃ k8, Hid (k8 = pre8.length) := ⟨_, hid rfl⟩
                rw [← hk8.out] at cI hpz
                have hrw : V.ownsRow 0 51 3 (.slice ao8 zl8 c8) zs8.length (flatX zs8) := (hrt.mem (c := rowC 51 3 (.slice ao8 zl8 c8) zs8.length (flatX zs8)) (by rw [hbfx.out]; simp)).2.1
                rw [hzl8.out] at hrw
                obtain ⟨gv, hgv, lgv, z0, z1, z2⟩ := row_at hrw hz
                have hcap : zs8.length ≤ c8 := by
                  rcases hrw.2 with ⟨e, e2⟩ | ⟨g', cap, cur, e, _, _, hn', _⟩
                  · have := (List.getElem?_eq_some_iff.1 hz).1; omega
                  · simp only [Value.slice.injEq] at e; omega
                subst hgv
                have zdat : V.ownsRow 0 5 1 z.v z.bs.length (cellsB z.bs) := (hrt.mem (c := datC z) (by rw [hbfx.out]; simp only [List.mem_cons, List.mem_append, List.mem_map]; exact .inr (.inr (.inr (.inr (.inl ⟨z, List.mem_of_getElem? hz, rfl⟩)))))).2.1
                have xdat : V.ownsRow 0 5 1 xi.v xi.bs.length (cellsB xi.bs) := (hrt.mem (c := datC xi) (by simp)).2.1
                have SM8 : Hid (Calls Try.prog 16 #[.slice (some ⟨V.heap.size, 0, none⟩) 1 1, .slice (some ⟨gv, k8 * 3, none⟩) 1 (c8 - k8)] (V.drew.alloc (.cells #[.int .i64 (xi.num : Int), .int .i64 (xi.at_ : Int), .slice xi.ao xi.len xi.cap] 51)) fun e w' => e = .returned (.bool true) ∧ ∃ q, w' = (V.drew.alloc (.cells #[.int .i64 (xi.num : Int), .int .i64 (xi.at_ : Int), .slice xi.ao xi.len xi.cap] 51)).drewN q) := hid (by
                  have hbW : Below V.heap.size V (V.drew.alloc (.cells #[.int .i64 (xi.num : Int), .int .i64 (xi.at_ : Int), .slice xi.ao xi.len xi.cap] 51)) := (bd V).trans (ba V.drew _)
                  refine lsame_eq (xs := [xi]) (ys := [z]) (k := 1) (fun i y hy => ?_) (fun i y hy => ?_) (by simp [hzk]) rfl (by omega) ?_
                  · obtain ⟨rfl, rfl⟩ : i = 0 ∧ xi = y := by
                      cases i with
                      | zero => exact ⟨rfl, by simpa using hy⟩
                      | succ n => simp at hy
                    have en := heap_alloc_new V.drew (.cells #[.int .i64 (xi.num : Int), .int .i64 (xi.at_ : Int), .slice xi.ao xi.len xi.cap] 51)
                    exact ⟨V.heap.size, 0, rfl, (cell_at en 0).trans rfl, (cell_at en 1).trans rfl, (cell_at en 2).trans rfl, (Reads.of_owns xdat).below hbW⟩
                  · obtain ⟨rfl, rfl⟩ : i = 0 ∧ z = y := by
                      cases i with
                      | zero => exact ⟨rfl, by simpa using hy⟩
                      | succ n => simp at hy
                    exact ⟨gv, k8 * 3, rfl, cell_under hbW lgv (by simpa [hk8.out] using z0), cell_under hbW lgv (by simpa [hk8.out] using z1), cell_under hbW lgv (by simpa [hk8.out] using z2), (Reads.of_owns zdat).below hbW⟩
                  · intro y hy
                    obtain rfl : y = xi := by simpa using hy
                    have hm : z.key ∈ zs8.map Xs.key := List.mem_map.2 ⟨z, List.mem_of_getElem? hz, rfl⟩
                    rw [HK8.out, hzk] at hm
                    have e2 : (S9 y.num).2 = y.bs := (congrArg Prod.snd (newS_mem hm).2.2).symm
                    have := (HB8.out.cap y.num).2
                    rw [e2] at this
                    exact this)
                have hk0 : (0 : Int) ≤ (k8 : Int) := by omega
                obtain ⟨k18, hk18⟩ : ∃ k18, Hid (k18 = k8 + 1) := ⟨_, hid rfl⟩
                have wk1 : IntKind.i64.wrap ((k8 : Int) + 1) = (k18 : Int) := by have := hk8.out; rw [hk18.out, IntKind.wrap_i64]; omega
                have dk : ¬ (k8 : Int) ≥ (zl8 : Int) := by omega
                have dkb : decide (zl8 ≤ k8) = false := by simp; omega
                have dkc : k8 < c8 := by have := hzl8.out; omega
                have dkd : ¬ c8 = k8 := by omega
                have dke : ¬ c8 - k8 = 0 := by omega
                have dkf : k18 - k8 = 1 := by rw [hk18.out]; omega
                have dkg : ((k18 : Int) - (k8 : Int)).toNat = 1 := by rw [hk18.out]; omega
                have dk1 : (k8 : Int) ≤ (k18 : Int) := by rw [hk18.out]; omega
                have dk2 : (k18 : Int) ≤ (c8 : Int) := by have := hzl8.out; rw [hk18.out]; omega
                have HPn := hid hP'
                have HZ8 := hid hz
                have HZK8 := hid hzk
                clear hrt eI eW hP' hz hzk hpx hrw lgv z0 z1 z2 hcap zdat xdat
                gi_wp2
                refine region_inv (by kernel_rfl) (Inv18 [Value.int IntKind.i64 ↑m, Value.slice ao xl c, Value.slice (some { block := b, off := o }) zl c2, Value.int IntKind.i64 at_, undef, undef, Value.pointer (some { block := w.heap.size, off := 0 }), Value.pointer (some { block := w.heap.size + 1, off := 0 }), Value.pointer (some { block := w.heap.size + 1 + 1, off := 0 }), Value.pointer (some { block := w1.heap.size, off := 0 }), Value.int IntKind.i64 0, Value.pointer (some { block := w2.heap.size, off := 0 }), Value.int IntKind.i64 0, undef, u14, Value.pointer (some { block := wr.heap.size + 1 + 1, off := 0 }), Value.pointer (some { block := w4.heap.size, off := 0 }), Value.pointer (some { block := w4.heap.size + 1, off := 0 }), Value.pointer (some { block := Bx, off := 0 }), Value.pointer (some { block := W9.heap.size, off := 0 }), Value.pointer (some { block := wA.heap.size, off := 0 }), Value.pointer (some { block := wA.heap.size + 1, off := 0 }), Value.pointer (some { block := By, off := 0 }), Value.tuple #[Value.pointer (some { block := g, off := 0 }), Value.int IntKind.i64 0], Value.int IntKind.i64 ↑m, Value.tuple #[Value.pointer (some { block := g, off := 0 }), Value.int IntKind.i64 0], Value.pointer (some { block := g, off := 0 }), Value.int IntKind.i64 0, Value.tuple #[Value.pointer (some { block := R, off := 0 }), Value.int IntKind.i64 0], Value.int IntKind.i64 ↑m, Value.tuple #[Value.pointer (some { block := R, off := 0 }), Value.int IntKind.i64 0], Value.pointer (some { block := R, off := 0 }), Value.int IntKind.i64 0, Value.pointer (some { block := R, off := 0 }), Value.bool false, undef, undef, Value.int IntKind.i64 0, Value.bool false, Value.bool false, Value.pointer (some { block := g, off := 0 }), Value.bool false, Value.bool false, Value.slice ao xl c, Value.int IntKind.i64 ↑xl, Value.int IntKind.i64 ↑i, Value.bool false, u47, u48, u49, u50, u51, u52, u53, u54, u55, u56, u57, u58, u59, u60, u61, u62, u63, u64, u65, u66, Value.pointer (some { block := g, off := 0 }), Value.int IntKind.i64 at_, Value.func (Fn.func 39) #[] #[Value.pointer (some { block := wr.heap.size, off := 0 }), Value.pointer (some { block := wr.heap.size + 1, off := 0 })], Value.pointer (some { block := R, off := 0 }), Value.int IntKind.i64 at_, Value.slice (some { block := gw, off := 0 }) zl4 c4, Value.func (Fn.func 39) #[] #[Value.pointer (some { block := wr.heap.size, off := 0 }), Value.pointer (some { block := wr.heap.size + 1, off := 0 })], Value.agg #[Value.int IntKind.i64 ↑x.num, Value.int IntKind.i64 ↑x.at_, Value.slice x.ao x.len x.cap], Value.int IntKind.i64 ↑k, Value.slice (some { block := gw, off := 0 }) zl4 c4, Value.int IntKind.i64 ↑zl4, Value.bool false, Value.bool false, Value.agg #[Value.int IntKind.i64 ↑x.num, Value.int IntKind.i64 ↑x.at_, Value.slice x.ao x.len x.cap], Value.slice (some { block := W.heap.size, off := 0 }) 1 1, Value.slice (some { block := gw, off := 0 }) zl4 c4, Value.int IntKind.i64 ↑k, Value.int IntKind.i64 ↑k, Value.int IntKind.i64 ↑k1, Value.slice (some { block := gw, off := k * 3 }) 1 (c4 - k), Value.bool true, Value.bool false, Value.bool false, Value.int IntKind.i64 ↑k, Value.slice (some { block := b, off := o }) zl c2, Value.int IntKind.i64 ↑zl, Value.bool true, Value.slice (some { block := b, off := o }) zl c2, Value.int IntKind.i64 ↑k, Value.pointer (some { block := b, off := o + k * 6 }), Value.agg #[Value.int IntKind.i64 y.kind, Value.int IntKind.i64 y.book, Value.int IntKind.i64 y.num, Value.int IntKind.i64 y.at_, Value.slice y.d1 y.d2 y.d3, Value.slice y.l1 y.l2 y.l3], Value.pointer (some { block := g, off := 0 }), Value.pointer (some { block := W9.heap.size, off := 2 }), Value.int IntKind.i64 y.num, Value.pointer (some { block := W9.heap.size, off := 3 }), Value.int IntKind.i64 y.at_, Value.pointer (some { block := W9.heap.size, off := 4 }), Value.slice y.d1 y.d2 y.d3, Value.int IntKind.i64 E9, Value.pointer (some { block := R, off := 0 }), Value.pointer (some { block := W9.heap.size, off := 2 }), Value.int IntKind.i64 y.num, Value.pointer (some { block := W9.heap.size, off := 3 }), Value.int IntKind.i64 y.at_, Value.pointer (some { block := W9.heap.size, off := 4 }), Value.slice y.d1 y.d2 y.d3, Value.int IntKind.i64 E9, Value.bool false, Value.pointer (some { block := R, off := 0 }), Value.int IntKind.i64 at_, Value.slice (some { block := gv, off := 0 }) zl8 c8, Value.func (Fn.func 39) #[] #[Value.pointer (some { block := wr.heap.size, off := 0 }), Value.pointer (some { block := wr.heap.size + 1, off := 0 })], Value.agg #[Value.int IntKind.i64 ↑xi.num, Value.int IntKind.i64 ↑xi.at_, Value.slice xi.ao xi.len xi.cap]] [undef, undef, undef, undef, undef, undef, undef, undef, undef, undef, undef, undef] (.int .i64 (k8 : Int)) (.slice (some ⟨gv, 0, none⟩) zl8 c8) (.int .i64 (zl8 : Int)) (.agg #[.int .i64 (xi.num : Int), .int .i64 (xi.at_ : Int), .slice xi.ao xi.len xi.cap]) (.slice (some ⟨V.heap.size, 0, none⟩) 1 1) (.int .i64 (k18 : Int)) (.slice (some ⟨gv, k8 * 3, none⟩) 1 (c8 - k8)) V (.cells #[.int .i64 (xi.num : Int), .int .i64 (xi.at_ : Int), .slice xi.ao xi.len xi.cap] 51)) (lowB_spec (by kernel_rfl)) ?nh0 ?nhstep ?nhdone
                case nh0 => exact ⟨_, _, _, _, _, _, _, _, _, _, _, _, _, _, _, rfl, (fun h => by cases h), (fun h => by cases h), (fun h => by cases h), (fun h => by cases h), (fun h => by cases h), (fun h => by cases h), (fun h => by cases h), (fun h => by cases h), (fun h => by cases h), (fun h => by cases h), (fun h => by cases h), (fun h => by cases h), (fun h => by cases h), (fun h => by cases h), (fun h => by cases h), (fun _ => rfl), (fun h => by cases h), (fun h => by cases h), (fun h => by cases h), (fun h => by cases h), (fun h => by cases h), (fun h => by cases h), (fun h => by cases h), (fun h => by cases h), (fun h => by cases h), (fun h => by cases h), (fun h => by cases h), (fun h => by cases h)⟩
                case nhdone =>
                  rintro G ac w9 hG ⟨t0, t1, t2, t3, t4, t5, t6, t7, t8, t9, t10, t11, t12, t13, t14, rfl, g0, g1, g2, g3, g4, g5, g6, g7, g8, g9, g10, g11, g12, g13, g14, kw1, kw2, kw3, kc12, kc11, kc10, kc6, kc5, kc4, kc3, kc2, kc14, kc13⟩
                  obtain rfl := g0 (hG 0 (by decide))
                  obtain rfl := g1 (hG 1 (by decide))
                  obtain rfl := g2 (hG 2 (by decide))
                  obtain rfl := g3 (hG 3 (by decide))
                  obtain rfl := g4 (hG 4 (by decide))
                  obtain rfl := g5 (hG 5 (by decide))
                  obtain rfl := g6 (hG 6 (by decide))
                  obtain rfl := g7 (hG 7 (by decide))
                  obtain rfl := g8 (hG 8 (by decide))
                  obtain rfl := g9 (hG 9 (by decide))
                  obtain rfl := g10 (hG 10 (by decide))
                  obtain rfl := g11 (hG 11 (by decide))
                  obtain rfl := g12 (hG 12 (by decide))
                  obtain rfl := g13 (hG 13 (by decide))
                  obtain rfl := g14 (hG 14 (by decide))
                  obtain ⟨q8, hq8⟩ := kw3 (hG 12 (by decide))
                  subst hq8
                  clear g0 g1 g2 g3 g4 g5 g6 g7 g8 g9 g10 g11 g12 g13 g14 kw1 kw2 kw3 kc12 kc11 kc10 kc6 kc5 kc4 kc3 kc2 kc14 kc13 hG
                  simp only [List.cons_append, List.nil_append]
                  have hb8 : Below V.heap.size V ((V.drew.alloc (.cells #[.int .i64 (xi.num : Int), .int .i64 (xi.at_ : Int), .slice xi.ao xi.len xi.cap] 51)).drewN q8) := ((bd V).trans (ba V.drew _)).trans ((bdN _ q8).mono (by simp))
                  have P8 := HPn.out.later hb8
                  obtain ⟨V9, hV9⟩ : ∃ V9, Hid (V9 = (V.drew.alloc (.cells #[.int .i64 (xi.num : Int), .int .i64 (xi.at_ : Int), .slice xi.ao xi.len xi.cap] 51)).drewN q8) := ⟨_, hid rfl⟩
                  rw [← hV9.out] at P8 hb8 ⊢
                  have lI8 : V9.heap[wA.heap.size + 1]? = some (.cells [.int .i64 (pre8.length : Int)].toArray 3 (0, 0)) := P8.rest.blk (by simp)
                  have cI8 : V9.cell? ⟨wA.heap.size + 1, 0, none⟩ = some (.int .i64 (k8 : Int)) := by rw [cell_at lI8, hk8.out]; rfl
                  have fI8 : V9.frozen? ⟨wA.heap.size + 1, 0, none⟩ = false := free_at lI8 0
                  have HI8 := hid lI8
                  have HP8 := hid P8
                  clear P8 SM8 lI8 cI cW x0 x1 x2
                  gi_wp2
                  have hg8 := grownBy_setCell' V9 (wA.heap.size + 1) (.int .i64 (k18 : Int))
                  refine ⟨KeepsFrom.trans ⟨hb8.size, fun i o _ hi _ => (hb8.block i (Array.getElem?_eq_some_iff.1 hi).1).trans hi⟩ (KeepsFrom.of_grownBy hg8 (fun j e => by cases e; omega)), ⟨Nat.le_trans hb8.size hg8.size, fun T By l' hT => (hT.below hb8).keep (pbOf_PB Q8) (KeepT.turn hg8 (fun r e => ?_))⟩, ?_⟩
                  · cases e
                    refine ⟨?_, fun cs t fr ht => ?_⟩
                    · omega
                    · rw [HI8.out] at ht
                      cases ht
                      decide
                  · have e1 : (k18 : Int) = ((pre8 ++ [xi]).length : Int) := by rw [hk18.out, hk8.out]; simp
                    rw [e1]
                    exact HP8.out.drop.setBox _
                case nhstep =>
                  intro G i9 o9 ac w9 ho hG hd hI
                  have hi9 : i9 < 15 := (Array.getElem?_eq_some_iff.1 ho).1
                  obtain ⟨t0, t1, t2, t3, t4, t5, t6, t7, t8, t9, t10, t11, t12, t13, t14, rfl, g0, g1, g2, g3, g4, g5, g6, g7, g8, g9, g10, g11, g12, g13, g14, kw1, kw2, kw3, kc12, kc11, kc10, kc6, kc5, kc4, kc3, kc2, kc14, kc13⟩ := hI
                  have hcells : G 12 = false → w9.cell? ⟨wA.heap.size + 1, 0, none⟩ = some (.int .i64 (k8 : Int)) ∧ w9.cell? ⟨wA.heap.size, 0, none⟩ = some (.slice (some ⟨gv, 0, none⟩) zl8 c8) ∧ w9.cell? ⟨By, 0, none⟩ = some (.int .i64 (xi.num : Int)) ∧ w9.cell? ⟨By, 1, none⟩ = some (.int .i64 (xi.at_ : Int)) ∧ w9.cell? ⟨By, 2, none⟩ = some (.slice xi.ao xi.len xi.cap) := fun h12 => by
                    cases h6 : G 6 with
                    | false => rw [kw1 h6]; exact ⟨cI, cW, x0, x1, x2⟩
                    | true => rw [kw2 h6 h12]; exact ⟨cell_under (ba V.drew _) (lt_of_cell cI) cI, cell_under (ba V.drew _) (lt_of_cell cW) cW, cell_under (ba V.drew _) (lt_of_cell x0) x0, cell_under (ba V.drew _) (lt_of_cell x1) x1, cell_under (ba V.drew _) (lt_of_cell x2) x2⟩
                  have hcs : i9 = 0 ∨ i9 = 1 ∨ i9 = 2 ∨ i9 = 3 ∨ i9 = 4 ∨ i9 = 5 ∨ i9 = 6 ∨ i9 = 7 ∨ i9 = 8 ∨ i9 = 9 ∨ i9 = 10 ∨ i9 = 11 ∨ i9 = 12 ∨ i9 = 13 ∨ i9 = 14 := by omega
                  rcases hcs with rfl | rfl | rfl | rfl | rfl | rfl | rfl | rfl | rfl | rfl | rfl | rfl | rfl | rfl | rfl
                  · have ho : _ = o9 := Option.some.inj ho
                    subst ho
                    have h12 : G 12 = false := by cases h : G 12 with | false => rfl | true => rw [(kc3 (kc4 (kc5 (kc6 (kc12 h).1)))).1] at hG; cases hG
                    obtain ⟨q1, q2, q3, q4, q5⟩ := hcells h12
                    have HH := hid (show _ ∧ _ ∧ _ ∧ _ ∧ _ ∧ _ ∧ _ ∧ _ ∧ _ ∧ _ ∧ _ ∧ _ ∧ _ ∧ _ ∧ _ ∧ _ ∧ _ ∧ _ ∧ _ ∧ _ ∧ _ ∧ _ ∧ _ ∧ _ ∧ _ ∧ _ ∧ _ ∧ _ from ⟨g0, g1, g2, g3, g4, g5, g6, g7, g8, g9, g10, g11, g12, g13, g14, kw1, kw2, kw3, kc12, kc11, kc10, kc6, kc5, kc4, kc3, kc2, kc14, kc13⟩)
                    clear g0 g1 g2 g3 g4 g5 g6 g7 g8 g9 g10 g11 g12 g13 g14 kw1 kw2 kw3 kc12 kc11 kc10 kc6 kc5 kc4 kc3 kc2 kc14 kc13 hcells hd
                    refine wpOpIn_ofG rfl ?_
                    simp only [List.cons_append, List.nil_append]
                    gi_wp2
                    obtain ⟨g0, g1, g2, g3, g4, g5, g6, g7, g8, g9, g10, g11, g12, g13, g14, kw1, kw2, kw3, kc12, kc11, kc10, kc6, kc5, kc4, kc3, kc2, kc14, kc13⟩ := HH.out
                    exact ⟨_, _, _, _, _, _, _, _, _, _, _, _, _, _, _, rfl, (fun _ => rfl), (fun h => g1 (by simpa using h)), (fun h => g2 (by simpa using h)), (fun h => g3 (by simpa using h)), (fun h => g4 (by simpa using h)), (fun h => g5 (by simpa using h)), (fun h => g6 (by simpa using h)), (fun h => g7 (by simpa using h)), (fun h => g8 (by simpa using h)), (fun h => g9 (by simpa using h)), (fun h => g10 (by simpa using h)), (fun h => g11 (by simpa using h)), (fun h => g12 (by simpa using h)), (fun h => g13 (by simpa using h)), (fun h => g14 (by simpa using h)), (fun h => kw1 (by simpa using h)), (fun h h2 => kw2 (by simpa using h) (by simpa using h2)), (fun h => kw3 (by simpa using h)), (fun h => ⟨by have := (kc12 (by simpa using h)).1; simpa using this, by have := (kc12 (by simpa using h)).2; simpa using this⟩), (fun h => ⟨by have := (kc11 (by simpa using h)).1; simpa using this, by have := (kc11 (by simpa using h)).2.1; simpa using this, by have := (kc11 (by simpa using h)).2.2; simpa using this⟩), (fun h => (by have := (kc10 (by simpa using h)); simpa using this)), (fun h => (by have := (kc6 (by simpa using h)); simpa using this)), (fun h => (by have := (kc5 (by simpa using h)); simpa using this)), (fun h => (by have := (kc4 (by simpa using h)); simpa using this)), (fun h => ⟨by simp, by have := (kc3 (by simpa using h)).2; simpa using this⟩), (fun h => (by have := (kc2 (by simpa using h)); simpa using this)), (fun h => (by have := (kc14 (by simpa using h)); simpa using this)), (fun h => (by have := (kc13 (by simpa using h)); simpa using this))⟩
                  · have ho : _ = o9 := Option.some.inj ho
                    subst ho
                    have h12 : G 12 = false := by cases h : G 12 with | false => rfl | true => rw [kc2 (kc3 (kc4 (kc5 (kc6 (kc12 h).1)))).2] at hG; cases hG
                    obtain ⟨q1, q2, q3, q4, q5⟩ := hcells h12
                    have HH := hid (show _ ∧ _ ∧ _ ∧ _ ∧ _ ∧ _ ∧ _ ∧ _ ∧ _ ∧ _ ∧ _ ∧ _ ∧ _ ∧ _ ∧ _ ∧ _ ∧ _ ∧ _ ∧ _ ∧ _ ∧ _ ∧ _ ∧ _ ∧ _ ∧ _ ∧ _ ∧ _ ∧ _ from ⟨g0, g1, g2, g3, g4, g5, g6, g7, g8, g9, g10, g11, g12, g13, g14, kw1, kw2, kw3, kc12, kc11, kc10, kc6, kc5, kc4, kc3, kc2, kc14, kc13⟩)
                    clear g0 g1 g2 g3 g4 g5 g6 g7 g8 g9 g10 g11 g12 g13 g14 kw1 kw2 kw3 kc12 kc11 kc10 kc6 kc5 kc4 kc3 kc2 kc14 kc13 hcells hd
                    refine wpOpIn_ofG rfl ?_
                    simp only [List.cons_append, List.nil_append]
                    gi_wp2
                    obtain ⟨g0, g1, g2, g3, g4, g5, g6, g7, g8, g9, g10, g11, g12, g13, g14, kw1, kw2, kw3, kc12, kc11, kc10, kc6, kc5, kc4, kc3, kc2, kc14, kc13⟩ := HH.out
                    exact ⟨_, _, _, _, _, _, _, _, _, _, _, _, _, _, _, rfl, (fun h => g0 (by simpa using h)), (fun _ => rfl), (fun h => g2 (by simpa using h)), (fun h => g3 (by simpa using h)), (fun h => g4 (by simpa using h)), (fun h => g5 (by simpa using h)), (fun h => g6 (by simpa using h)), (fun h => g7 (by simpa using h)), (fun h => g8 (by simpa using h)), (fun h => g9 (by simpa using h)), (fun h => g10 (by simpa using h)), (fun h => g11 (by simpa using h)), (fun h => g12 (by simpa using h)), (fun h => g13 (by simpa using h)), (fun h => g14 (by simpa using h)), (fun h => kw1 (by simpa using h)), (fun h h2 => kw2 (by simpa using h) (by simpa using h2)), (fun h => kw3 (by simpa using h)), (fun h => ⟨by have := (kc12 (by simpa using h)).1; simpa using this, by have := (kc12 (by simpa using h)).2; simpa using this⟩), (fun h => ⟨by have := (kc11 (by simpa using h)).1; simpa using this, by have := (kc11 (by simpa using h)).2.1; simpa using this, by have := (kc11 (by simpa using h)).2.2; simpa using this⟩), (fun h => (by have := (kc10 (by simpa using h)); simpa using this)), (fun h => (by have := (kc6 (by simpa using h)); simpa using this)), (fun h => (by have := (kc5 (by simpa using h)); simpa using this)), (fun h => (by have := (kc4 (by simpa using h)); simpa using this)), (fun h => ⟨by have := (kc3 (by simpa using h)).1; simpa using this, by have := (kc3 (by simpa using h)).2; simpa using this⟩), (fun h => (by simp)), (fun h => (by have := (kc14 (by simpa using h)); simpa using this)), (fun h => (by have := (kc13 (by simpa using h)); simpa using this))⟩
                  · have ho : _ = o9 := Option.some.inj ho
                    subst ho
                    have d1 : G 1 = true := hd ⟨1, .data⟩ (by simp) rfl
                    obtain rfl := g1 d1
                    have HH := hid (show _ ∧ _ ∧ _ ∧ _ ∧ _ ∧ _ ∧ _ ∧ _ ∧ _ ∧ _ ∧ _ ∧ _ ∧ _ ∧ _ ∧ _ ∧ _ ∧ _ ∧ _ ∧ _ ∧ _ ∧ _ ∧ _ ∧ _ ∧ _ ∧ _ ∧ _ ∧ _ ∧ _ from ⟨g0, g1, g2, g3, g4, g5, g6, g7, g8, g9, g10, g11, g12, g13, g14, kw1, kw2, kw3, kc12, kc11, kc10, kc6, kc5, kc4, kc3, kc2, kc14, kc13⟩)
                    clear g0 g1 g2 g3 g4 g5 g6 g7 g8 g9 g10 g11 g12 g13 g14 kw1 kw2 kw3 kc12 kc11 kc10 kc6 kc5 kc4 kc3 kc2 kc14 kc13 hcells hd
                    refine wpOpIn_ofG rfl ?_
                    simp only [List.cons_append, List.nil_append]
                    gi_wp2
                    obtain ⟨g0, g1, g2, g3, g4, g5, g6, g7, g8, g9, g10, g11, g12, g13, g14, kw1, kw2, kw3, kc12, kc11, kc10, kc6, kc5, kc4, kc3, kc2, kc14, kc13⟩ := HH.out
                    exact ⟨_, _, _, _, _, _, _, _, _, _, _, _, _, _, _, rfl, (fun h => g0 (by simpa using h)), (fun _ => rfl), (fun _ => rfl), (fun h => g3 (by simpa using h)), (fun h => g4 (by simpa using h)), (fun h => g5 (by simpa using h)), (fun h => g6 (by simpa using h)), (fun h => g7 (by simpa using h)), (fun h => g8 (by simpa using h)), (fun h => g9 (by simpa using h)), (fun h => g10 (by simpa using h)), (fun h => g11 (by simpa using h)), (fun h => g12 (by simpa using h)), (fun h => g13 (by simpa using h)), (fun h => g14 (by simpa using h)), (fun h => kw1 (by simpa using h)), (fun h h2 => kw2 (by simpa using h) (by simpa using h2)), (fun h => kw3 (by simpa using h)), (fun h => ⟨by have := (kc12 (by simpa using h)).1; simpa using this, by have := (kc12 (by simpa using h)).2; simpa using this⟩), (fun h => ⟨by have := (kc11 (by simpa using h)).1; simpa using this, by have := (kc11 (by simpa using h)).2.1; simpa using this, by have := (kc11 (by simpa using h)).2.2; simpa using this⟩), (fun h => (by have := (kc10 (by simpa using h)); simpa using this)), (fun h => (by have := (kc6 (by simpa using h)); simpa using this)), (fun h => (by have := (kc5 (by simpa using h)); simpa using this)), (fun h => (by have := (kc4 (by simpa using h)); simpa using this)), (fun h => ⟨by have := (kc3 (by simpa using h)).1; simpa using this, by simp⟩), (fun h => (by simp [d1])), (fun h => (by have := (kc14 (by simpa using h)); simpa using this)), (fun h => (by have := (kc13 (by simpa using h)); simpa using this))⟩
                  · have ho : _ = o9 := Option.some.inj ho
                    subst ho
                    have d0 : G 0 = true := hd ⟨0, .data⟩ (by simp) rfl
                    have d2 : G 2 = true := hd ⟨2, .data⟩ (by simp) rfl
                    obtain rfl := g0 d0
                    obtain rfl := g2 d2
                    have HH := hid (show _ ∧ _ ∧ _ ∧ _ ∧ _ ∧ _ ∧ _ ∧ _ ∧ _ ∧ _ ∧ _ ∧ _ ∧ _ ∧ _ ∧ _ ∧ _ ∧ _ ∧ _ ∧ _ ∧ _ ∧ _ ∧ _ ∧ _ ∧ _ ∧ _ ∧ _ ∧ _ ∧ _ from ⟨g0, g1, g2, g3, g4, g5, g6, g7, g8, g9, g10, g11, g12, g13, g14, kw1, kw2, kw3, kc12, kc11, kc10, kc6, kc5, kc4, kc3, kc2, kc14, kc13⟩)
                    clear g0 g1 g2 g3 g4 g5 g6 g7 g8 g9 g10 g11 g12 g13 g14 kw1 kw2 kw3 kc12 kc11 kc10 kc6 kc5 kc4 kc3 kc2 kc14 kc13 hcells hd
                    refine wpOpIn_ofG rfl ?_
                    simp only [List.cons_append, List.nil_append]
                    gi_wp2
                    obtain ⟨g0, g1, g2, g3, g4, g5, g6, g7, g8, g9, g10, g11, g12, g13, g14, kw1, kw2, kw3, kc12, kc11, kc10, kc6, kc5, kc4, kc3, kc2, kc14, kc13⟩ := HH.out
                    exact ⟨_, _, _, _, _, _, _, _, _, _, _, _, _, _, _, rfl, (fun _ => rfl), (fun h => g1 (by simpa using h)), (fun _ => rfl), (fun _ => rfl), (fun h => g4 (by simpa using h)), (fun h => g5 (by simpa using h)), (fun h => g6 (by simpa using h)), (fun h => g7 (by simpa using h)), (fun h => g8 (by simpa using h)), (fun h => g9 (by simpa using h)), (fun h => g10 (by simpa using h)), (fun h => g11 (by simpa using h)), (fun h => g12 (by simpa using h)), (fun h => g13 (by simpa using h)), (fun h => g14 (by simpa using h)), (fun h => kw1 (by simpa using h)), (fun h h2 => kw2 (by simpa using h) (by simpa using h2)), (fun h => kw3 (by simpa using h)), (fun h => ⟨by have := (kc12 (by simpa using h)).1; simpa using this, by have := (kc12 (by simpa using h)).2; simpa using this⟩), (fun h => ⟨by have := (kc11 (by simpa using h)).1; simpa using this, by have := (kc11 (by simpa using h)).2.1; simpa using this, by have := (kc11 (by simpa using h)).2.2; simpa using this⟩), (fun h => (by have := (kc10 (by simpa using h)); simpa using this)), (fun h => (by have := (kc6 (by simpa using h)); simpa using this)), (fun h => (by have := (kc5 (by simpa using h)); simpa using this)), (fun h => (by simp)), (fun h => ⟨by simp [d0], by simp [d2]⟩), (fun h => (by have := (kc2 (by simpa using h)); simpa using this)), (fun h => (by have := (kc14 (by simpa using h)); simpa using this)), (fun h => (by have := (kc13 (by simpa using h)); simpa using this))⟩
                  · have ho : _ = o9 := Option.some.inj ho
                    subst ho
                    have d3 : G 3 = true := hd ⟨3, .data⟩ (by simp) rfl
                    obtain rfl := g3 d3
                    have HH := hid (show _ ∧ _ ∧ _ ∧ _ ∧ _ ∧ _ ∧ _ ∧ _ ∧ _ ∧ _ ∧ _ ∧ _ ∧ _ ∧ _ ∧ _ ∧ _ ∧ _ ∧ _ ∧ _ ∧ _ ∧ _ ∧ _ ∧ _ ∧ _ ∧ _ ∧ _ ∧ _ ∧ _ from ⟨g0, g1, g2, g3, g4, g5, g6, g7, g8, g9, g10, g11, g12, g13, g14, kw1, kw2, kw3, kc12, kc11, kc10, kc6, kc5, kc4, kc3, kc2, kc14, kc13⟩)
                    clear g0 g1 g2 g3 g4 g5 g6 g7 g8 g9 g10 g11 g12 g13 g14 kw1 kw2 kw3 kc12 kc11 kc10 kc6 kc5 kc4 kc3 kc2 kc14 kc13 hcells hd
                    refine wpOpIn_ofG rfl ?_
                    simp only [List.cons_append, List.nil_append]
                    gi_wp2
                    obtain ⟨g0, g1, g2, g3, g4, g5, g6, g7, g8, g9, g10, g11, g12, g13, g14, kw1, kw2, kw3, kc12, kc11, kc10, kc6, kc5, kc4, kc3, kc2, kc14, kc13⟩ := HH.out
                    exact ⟨_, _, _, _, _, _, _, _, _, _, _, _, _, _, _, rfl, (fun h => g0 (by simpa using h)), (fun h => g1 (by simpa using h)), (fun h => g2 (by simpa using h)), (fun _ => rfl), (fun _ => rfl), (fun h => g5 (by simpa using h)), (fun h => g6 (by simpa using h)), (fun h => g7 (by simpa using h)), (fun h => g8 (by simpa using h)), (fun h => g9 (by simpa using h)), (fun h => g10 (by simpa using h)), (fun h => g11 (by simpa using h)), (fun h => g12 (by simpa using h)), (fun h => g13 (by simpa using h)), (fun h => g14 (by simpa using h)), (fun h => kw1 (by simpa using h)), (fun h h2 => kw2 (by simpa using h) (by simpa using h2)), (fun h => kw3 (by simpa using h)), (fun h => ⟨by have := (kc12 (by simpa using h)).1; simpa using this, by have := (kc12 (by simpa using h)).2; simpa using this⟩), (fun h => ⟨by have := (kc11 (by simpa using h)).1; simpa using this, by have := (kc11 (by simpa using h)).2.1; simpa using this, by have := (kc11 (by simpa using h)).2.2; simpa using this⟩), (fun h => (by have := (kc10 (by simpa using h)); simpa using this)), (fun h => (by have := (kc6 (by simpa using h)); simpa using this)), (fun h => (by simp)), (fun h => (by simp [d3])), (fun h => ⟨by have := (kc3 (by simpa using h)).1; simpa using this, by have := (kc3 (by simpa using h)).2; simpa using this⟩), (fun h => (by have := (kc2 (by simpa using h)); simpa using this)), (fun h => (by have := (kc14 (by simpa using h)); simpa using this)), (fun h => (by have := (kc13 (by simpa using h)); simpa using this))⟩
                  · have ho : _ = o9 := Option.some.inj ho
                    subst ho
                    have d4 : G 4 = true := hd ⟨4, .guard⟩ (by simp) rfl
                    obtain rfl := g4 d4
                    have h12 : G 12 = false := by cases h : G 12 with | false => rfl | true => rw [kc6 (kc12 h).1] at hG; cases hG
                    obtain ⟨q1, q2, q3, q4, q5⟩ := hcells h12
                    have HH := hid (show _ ∧ _ ∧ _ ∧ _ ∧ _ ∧ _ ∧ _ ∧ _ ∧ _ ∧ _ ∧ _ ∧ _ ∧ _ ∧ _ ∧ _ ∧ _ ∧ _ ∧ _ ∧ _ ∧ _ ∧ _ ∧ _ ∧ _ ∧ _ ∧ _ ∧ _ ∧ _ ∧ _ from ⟨g0, g1, g2, g3, g4, g5, g6, g7, g8, g9, g10, g11, g12, g13, g14, kw1, kw2, kw3, kc12, kc11, kc10, kc6, kc5, kc4, kc3, kc2, kc14, kc13⟩)
                    clear g0 g1 g2 g3 g4 g5 g6 g7 g8 g9 g10 g11 g12 g13 g14 kw1 kw2 kw3 kc12 kc11 kc10 kc6 kc5 kc4 kc3 kc2 kc14 kc13 hcells hd
                    refine wpOpIn_ofG rfl ?_
                    simp only [List.cons_append, List.nil_append]
                    gi_wp2
                    obtain ⟨g0, g1, g2, g3, g4, g5, g6, g7, g8, g9, g10, g11, g12, g13, g14, kw1, kw2, kw3, kc12, kc11, kc10, kc6, kc5, kc4, kc3, kc2, kc14, kc13⟩ := HH.out
                    exact ⟨_, _, _, _, _, _, _, _, _, _, _, _, _, _, _, rfl, (fun h => g0 (by simpa using h)), (fun h => g1 (by simpa using h)), (fun h => g2 (by simpa using h)), (fun h => g3 (by simpa using h)), (fun _ => rfl), (fun _ => rfl), (fun h => g6 (by simpa using h)), (fun h => g7 (by simpa using h)), (fun h => g8 (by simpa using h)), (fun h => g9 (by simpa using h)), (fun h => g10 (by simpa using h)), (fun h => g11 (by simpa using h)), (fun h => g12 (by simpa using h)), (fun h => g13 (by simpa using h)), (fun h => g14 (by simpa using h)), (fun h => kw1 (by simpa using h)), (fun h h2 => kw2 (by simpa using h) (by simpa using h2)), (fun h => kw3 (by simpa using h)), (fun h => ⟨by have := (kc12 (by simpa using h)).1; simpa using this, by have := (kc12 (by simpa using h)).2; simpa using this⟩), (fun h => ⟨by have := (kc11 (by simpa using h)).1; simpa using this, by have := (kc11 (by simpa using h)).2.1; simpa using this, by have := (kc11 (by simpa using h)).2.2; simpa using this⟩), (fun h => (by have := (kc10 (by simpa using h)); simpa using this)), (fun h => (by simp)), (fun h => (by simp [d4])), (fun h => (by have := (kc4 (by simpa using h)); simpa using this)), (fun h => ⟨by have := (kc3 (by simpa using h)).1; simpa using this, by have := (kc3 (by simpa using h)).2; simpa using this⟩), (fun h => (by have := (kc2 (by simpa using h)); simpa using this)), (fun h => (by have := (kc14 (by simpa using h)); simpa using this)), (fun h => (by have := (kc13 (by simpa using h)); simpa using this))⟩
                  · have ho : _ = o9 := Option.some.inj ho
                    subst ho
                    have d5 : G 5 = true := hd ⟨5, .data⟩ (by simp) rfl
                    have d4 : G 4 = true := hd ⟨4, .guard⟩ (by simp) rfl
                    obtain rfl := g5 d5
                    obtain rfl := g4 d4
                    have h12 : G 12 = false := by cases h : G 12 with | false => rfl | true => rw [(kc12 h).1] at hG; cases hG
                    obtain rfl := kw1 hG
                    have h13 : G 13 = false := by cases h : G 13 with | false => rfl | true => rw [kc13 h] at h12; cases h12
                    have h14 : G 14 = false := by cases h : G 14 with | false => rfl | true => rw [kc14 h] at h12; cases h12
                    have HH := hid (show _ ∧ _ ∧ _ ∧ _ ∧ _ ∧ _ ∧ _ ∧ _ ∧ _ ∧ _ ∧ _ ∧ _ ∧ _ ∧ _ ∧ _ ∧ _ ∧ _ ∧ _ ∧ _ ∧ _ ∧ _ ∧ _ ∧ _ ∧ _ ∧ _ ∧ _ ∧ _ ∧ _ from ⟨g0, g1, g2, g3, g4, g5, g6, g7, g8, g9, g10, g11, g12, g13, g14, kw1, kw2, kw3, kc12, kc11, kc10, kc6, kc5, kc4, kc3, kc2, kc14, kc13⟩)
                    clear g0 g1 g2 g3 g4 g5 g6 g7 g8 g9 g10 g11 g12 g13 g14 kw1 kw2 kw3 kc12 kc11 kc10 kc6 kc5 kc4 kc3 kc2 kc14 kc13 hcells hd
                    refine wpOpIn_ofG rfl ?_
                    simp only [List.cons_append, List.nil_append]
                    gi_wp2
                    obtain ⟨g0, g1, g2, g3, g4, g5, g6, g7, g8, g9, g10, g11, g12, g13, g14, kw1, kw2, kw3, kc12, kc11, kc10, kc6, kc5, kc4, kc3, kc2, kc14, kc13⟩ := HH.out
                    exact ⟨_, _, _, _, _, _, _, _, _, _, _, _, _, _, _, rfl, (fun h => g0 (by simpa using h)), (fun h => g1 (by simpa using h)), (fun h => g2 (by simpa using h)), (fun h => g3 (by simpa using h)), (fun _ => rfl), (fun _ => rfl), (fun _ => rfl), (fun h => g7 (by simpa using h)), (fun h => g8 (by simpa using h)), (fun h => g9 (by simpa using h)), (fun h => g10 (by simpa using h)), (fun h => g11 (by simpa using h)), (fun h => g12 (by simpa using h)), (fun h => g13 (by simpa using h)), (fun h => g14 (by simpa using h)), (fun h => by simp at h), (fun _ _ => rfl), (fun h => by simp [h12] at h), (fun h => ⟨by simp, by have := (kc12 (by simpa using h)).2; simpa using this⟩), (fun h => ⟨by have := (kc11 (by simpa using h)).1; simpa using this, by have := (kc11 (by simpa using h)).2.1; simpa using this, by have := (kc11 (by simpa using h)).2.2; simpa using this⟩), (fun h => (by have := (kc10 (by simpa using h)); simpa using this)), (fun h => (by simp [d5])), (fun h => (by have := (kc5 (by simpa using h)); simpa using this)), (fun h => (by have := (kc4 (by simpa using h)); simpa using this)), (fun h => ⟨by have := (kc3 (by simpa using h)).1; simpa using this, by have := (kc3 (by simpa using h)).2; simpa using this⟩), (fun h => (by have := (kc2 (by simpa using h)); simpa using this)), (fun h => (by have := (kc14 (by simpa using h)); simpa using this)), (fun h => (by have := (kc13 (by simpa using h)); simpa using this))⟩
                  · have ho : _ = o9 := Option.some.inj ho
                    subst ho
                    have d4 : G 4 = true := hd ⟨4, .guard⟩ (by simp) rfl
                    obtain rfl := g4 d4
                    have h12 : G 12 = false := by cases h : G 12 with | false => rfl | true => rw [(kc11 (kc12 h).2).1] at hG; cases hG
                    obtain ⟨q1, q2, q3, q4, q5⟩ := hcells h12
                    have HH := hid (show _ ∧ _ ∧ _ ∧ _ ∧ _ ∧ _ ∧ _ ∧ _ ∧ _ ∧ _ ∧ _ ∧ _ ∧ _ ∧ _ ∧ _ ∧ _ ∧ _ ∧ _ ∧ _ ∧ _ ∧ _ ∧ _ ∧ _ ∧ _ ∧ _ ∧ _ ∧ _ ∧ _ from ⟨g0, g1, g2, g3, g4, g5, g6, g7, g8, g9, g10, g11, g12, g13, g14, kw1, kw2, kw3, kc12, kc11, kc10, kc6, kc5, kc4, kc3, kc2, kc14, kc13⟩)
                    clear g0 g1 g2 g3 g4 g5 g6 g7 g8 g9 g10 g11 g12 g13 g14 kw1 kw2 kw3 kc12 kc11 kc10 kc6 kc5 kc4 kc3 kc2 kc14 kc13 hcells hd
                    refine wpOpIn_ofG rfl ?_
                    simp only [List.cons_append, List.nil_append]
                    gi_wp2
                    obtain ⟨g0, g1, g2, g3, g4, g5, g6, g7, g8, g9, g10, g11, g12, g13, g14, kw1, kw2, kw3, kc12, kc11, kc10, kc6, kc5, kc4, kc3, kc2, kc14, kc13⟩ := HH.out
                    exact ⟨_, _, _, _, _, _, _, _, _, _, _, _, _, _, _, rfl, (fun h => g0 (by simpa using h)), (fun h => g1 (by simpa using h)), (fun h => g2 (by simpa using h)), (fun h => g3 (by simpa using h)), (fun _ => rfl), (fun h => g5 (by simpa using h)), (fun h => g6 (by simpa using h)), (fun _ => rfl), (fun h => g8 (by simpa using h)), (fun h => g9 (by simpa using h)), (fun h => g10 (by simpa using h)), (fun h => g11 (by simpa using h)), (fun h => g12 (by simpa using h)), (fun h => g13 (by simpa using h)), (fun h => g14 (by simpa using h)), (fun h => kw1 (by simpa using h)), (fun h h2 => kw2 (by simpa using h) (by simpa using h2)), (fun h => kw3 (by simpa using h)), (fun h => ⟨by have := (kc12 (by simpa using h)).1; simpa using this, by have := (kc12 (by simpa using h)).2; simpa using this⟩), (fun h => ⟨by simp, by have := (kc11 (by simpa using h)).2.1; simpa using this, by have := (kc11 (by simpa using h)).2.2; simpa using this⟩), (fun h => (by have := (kc10 (by simpa using h)); simpa using this)), (fun h => (by have := (kc6 (by simpa using h)); simpa using this)), (fun h => (by have := (kc5 (by simpa using h)); simpa using this)), (fun h => (by have := (kc4 (by simpa using h)); simpa using this)), (fun h => ⟨by have := (kc3 (by simpa using h)).1; simpa using this, by have := (kc3 (by simpa using h)).2; simpa using this⟩), (fun h => (by have := (kc2 (by simpa using h)); simpa using this)), (fun h => (by have := (kc14 (by simpa using h)); simpa using this)), (fun h => (by have := (kc13 (by simpa using h)); simpa using this))⟩
                  · have ho : _ = o9 := Option.some.inj ho
                    subst ho
                    have d4 : G 4 = true := hd ⟨4, .guard⟩ (by simp) rfl
                    obtain rfl := g4 d4
                    have h12 : G 12 = false := by cases h : G 12 with | false => rfl | true => rw [(kc11 (kc12 h).2).2.1] at hG; cases hG
                    obtain ⟨q1, q2, q3, q4, q5⟩ := hcells h12
                    have HH := hid (show _ ∧ _ ∧ _ ∧ _ ∧ _ ∧ _ ∧ _ ∧ _ ∧ _ ∧ _ ∧ _ ∧ _ ∧ _ ∧ _ ∧ _ ∧ _ ∧ _ ∧ _ ∧ _ ∧ _ ∧ _ ∧ _ ∧ _ ∧ _ ∧ _ ∧ _ ∧ _ ∧ _ from ⟨g0, g1, g2, g3, g4, g5, g6, g7, g8, g9, g10, g11, g12, g13, g14, kw1, kw2, kw3, kc12, kc11, kc10, kc6, kc5, kc4, kc3, kc2, kc14, kc13⟩)
                    clear g0 g1 g2 g3 g4 g5 g6 g7 g8 g9 g10 g11 g12 g13 g14 kw1 kw2 kw3 kc12 kc11 kc10 kc6 kc5 kc4 kc3 kc2 kc14 kc13 hcells hd
                    refine wpOpIn_ofG rfl ?_
                    simp only [List.cons_append, List.nil_append]
                    gi_wp2
                    obtain ⟨g0, g1, g2, g3, g4, g5, g6, g7, g8, g9, g10, g11, g12, g13, g14, kw1, kw2, kw3, kc12, kc11, kc10, kc6, kc5, kc4, kc3, kc2, kc14, kc13⟩ := HH.out
                    exact ⟨_, _, _, _, _, _, _, _, _, _, _, _, _, _, _, rfl, (fun h => g0 (by simpa using h)), (fun h => g1 (by simpa using h)), (fun h => g2 (by simpa using h)), (fun h => g3 (by simpa using h)), (fun _ => rfl), (fun h => g5 (by simpa using h)), (fun h => g6 (by simpa using h)), (fun h => g7 (by simpa using h)), (fun _ => rfl), (fun h => g9 (by simpa using h)), (fun h => g10 (by simpa using h)), (fun h => g11 (by simpa using h)), (fun h => g12 (by simpa using h)), (fun h => g13 (by simpa using h)), (fun h => g14 (by simpa using h)), (fun h => kw1 (by simpa using h)), (fun h h2 => kw2 (by simpa using h) (by simpa using h2)), (fun h => kw3 (by simpa using h)), (fun h => ⟨by have := (kc12 (by simpa using h)).1; simpa using this, by have := (kc12 (by simpa using h)).2; simpa using this⟩), (fun h => ⟨by have := (kc11 (by simpa using h)).1; simpa using this, by simp, by have := (kc11 (by simpa using h)).2.2; simpa using this⟩), (fun h => (by have := (kc10 (by simpa using h)); simpa using this)), (fun h => (by have := (kc6 (by simpa using h)); simpa using this)), (fun h => (by have := (kc5 (by simpa using h)); simpa using this)), (fun h => (by have := (kc4 (by simpa using h)); simpa using this)), (fun h => ⟨by have := (kc3 (by simpa using h)).1; simpa using this, by have := (kc3 (by simpa using h)).2; simpa using this⟩), (fun h => (by have := (kc2 (by simpa using h)); simpa using this)), (fun h => (by have := (kc14 (by simpa using h)); simpa using this)), (fun h => (by have := (kc13 (by simpa using h)); simpa using this))⟩
                  · have ho : _ = o9 := Option.some.inj ho
                    subst ho
                    have d4 : G 4 = true := hd ⟨4, .guard⟩ (by simp) rfl
                    obtain rfl := g4 d4
                    have h12 : G 12 = false := by cases h : G 12 with | false => rfl | true => rw [kc10 (kc11 (kc12 h).2).2.2] at hG; cases hG
                    obtain ⟨q1, q2, q3, q4, q5⟩ := hcells h12
                    have HH := hid (show _ ∧ _ ∧ _ ∧ _ ∧ _ ∧ _ ∧ _ ∧ _ ∧ _ ∧ _ ∧ _ ∧ _ ∧ _ ∧ _ ∧ _ ∧ _ ∧ _ ∧ _ ∧ _ ∧ _ ∧ _ ∧ _ ∧ _ ∧ _ ∧ _ ∧ _ ∧ _ ∧ _ from ⟨g0, g1, g2, g3, g4, g5, g6, g7, g8, g9, g10, g11, g12, g13, g14, kw1, kw2, kw3, kc12, kc11, kc10, kc6, kc5, kc4, kc3, kc2, kc14, kc13⟩)
                    clear g0 g1 g2 g3 g4 g5 g6 g7 g8 g9 g10 g11 g12 g13 g14 kw1 kw2 kw3 kc12 kc11 kc10 kc6 kc5 kc4 kc3 kc2 kc14 kc13 hcells hd
                    refine wpOpIn_ofG rfl ?_
                    simp only [List.cons_append, List.nil_append]
                    gi_wp2
                    obtain ⟨g0, g1, g2, g3, g4, g5, g6, g7, g8, g9, g10, g11, g12, g13, g14, kw1, kw2, kw3, kc12, kc11, kc10, kc6, kc5, kc4, kc3, kc2, kc14, kc13⟩ := HH.out
                    exact ⟨_, _, _, _, _, _, _, _, _, _, _, _, _, _, _, rfl, (fun h => g0 (by simpa using h)), (fun h => g1 (by simpa using h)), (fun h => g2 (by simpa using h)), (fun h => g3 (by simpa using h)), (fun _ => rfl), (fun h => g5 (by simpa using h)), (fun h => g6 (by simpa using h)), (fun h => g7 (by simpa using h)), (fun h => g8 (by simpa using h)), (fun _ => rfl), (fun h => g10 (by simpa using h)), (fun h => g11 (by simpa using h)), (fun h => g12 (by simpa using h)), (fun h => g13 (by simpa using h)), (fun h => g14 (by simpa using h)), (fun h => kw1 (by simpa using h)), (fun h h2 => kw2 (by simpa using h) (by simpa using h2)), (fun h => kw3 (by simpa using h)), (fun h => ⟨by have := (kc12 (by simpa using h)).1; simpa using this, by have := (kc12 (by simpa using h)).2; simpa using this⟩), (fun h => ⟨by have := (kc11 (by simpa using h)).1; simpa using this, by have := (kc11 (by simpa using h)).2.1; simpa using this, by have := (kc11 (by simpa using h)).2.2; simpa using this⟩), (fun h => (by simp)), (fun h => (by have := (kc6 (by simpa using h)); simpa using this)), (fun h => (by have := (kc5 (by simpa using h)); simpa using this)), (fun h => (by have := (kc4 (by simpa using h)); simpa using this)), (fun h => ⟨by have := (kc3 (by simpa using h)).1; simpa using this, by have := (kc3 (by simpa using h)).2; simpa using this⟩), (fun h => (by have := (kc2 (by simpa using h)); simpa using this)), (fun h => (by have := (kc14 (by simpa using h)); simpa using this)), (fun h => (by have := (kc13 (by simpa using h)); simpa using this))⟩
                  · have ho : _ = o9 := Option.some.inj ho
                    subst ho
                    have d9 : G 9 = true := hd ⟨9, .data⟩ (by simp) rfl
                    have d4 : G 4 = true := hd ⟨4, .guard⟩ (by simp) rfl
                    obtain rfl := g9 d9
                    obtain rfl := g4 d4
                    have HH := hid (show _ ∧ _ ∧ _ ∧ _ ∧ _ ∧ _ ∧ _ ∧ _ ∧ _ ∧ _ ∧ _ ∧ _ ∧ _ ∧ _ ∧ _ ∧ _ ∧ _ ∧ _ ∧ _ ∧ _ ∧ _ ∧ _ ∧ _ ∧ _ ∧ _ ∧ _ ∧ _ ∧ _ from ⟨g0, g1, g2, g3, g4, g5, g6, g7, g8, g9, g10, g11, g12, g13, g14, kw1, kw2, kw3, kc12, kc11, kc10, kc6, kc5, kc4, kc3, kc2, kc14, kc13⟩)
                    clear g0 g1 g2 g3 g4 g5 g6 g7 g8 g9 g10 g11 g12 g13 g14 kw1 kw2 kw3 kc12 kc11 kc10 kc6 kc5 kc4 kc3 kc2 kc14 kc13 hcells hd
                    refine wpOpIn_ofG rfl ?_
                    simp only [List.cons_append, List.nil_append]
                    gi_wp2
                    obtain ⟨g0, g1, g2, g3, g4, g5, g6, g7, g8, g9, g10, g11, g12, g13, g14, kw1, kw2, kw3, kc12, kc11, kc10, kc6, kc5, kc4, kc3, kc2, kc14, kc13⟩ := HH.out
                    exact ⟨_, _, _, _, _, _, _, _, _, _, _, _, _, _, _, rfl, (fun h => g0 (by simpa using h)), (fun h => g1 (by simpa using h)), (fun h => g2 (by simpa using h)), (fun h => g3 (by simpa using h)), (fun _ => rfl), (fun h => g5 (by simpa using h)), (fun h => g6 (by simpa using h)), (fun h => g7 (by simpa using h)), (fun h => g8 (by simpa using h)), (fun _ => rfl), (fun _ => rfl), (fun h => g11 (by simpa using h)), (fun h => g12 (by simpa using h)), (fun h => g13 (by simpa using h)), (fun h => g14 (by simpa using h)), (fun h => kw1 (by simpa using h)), (fun h h2 => kw2 (by simpa using h) (by simpa using h2)), (fun h => kw3 (by simpa using h)), (fun h => ⟨by have := (kc12 (by simpa using h)).1; simpa using this, by have := (kc12 (by simpa using h)).2; simpa using this⟩), (fun h => ⟨by have := (kc11 (by simpa using h)).1; simpa using this, by have := (kc11 (by simpa using h)).2.1; simpa using this, by simp⟩), (fun h => (by simp [d9])), (fun h => (by have := (kc6 (by simpa using h)); simpa using this)), (fun h => (by have := (kc5 (by simpa using h)); simpa using this)), (fun h => (by have := (kc4 (by simpa using h)); simpa using this)), (fun h => ⟨by have := (kc3 (by simpa using h)).1; simpa using this, by have := (kc3 (by simpa using h)).2; simpa using this⟩), (fun h => (by have := (kc2 (by simpa using h)); simpa using this)), (fun h => (by have := (kc14 (by simpa using h)); simpa using this)), (fun h => (by have := (kc13 (by simpa using h)); simpa using this))⟩
                  · have ho : _ = o9 := Option.some.inj ho
                    subst ho
                    have d7 : G 7 = true := hd ⟨7, .data⟩ (by simp) rfl
                    have d8 : G 8 = true := hd ⟨8, .data⟩ (by simp) rfl
                    have d10 : G 10 = true := hd ⟨10, .data⟩ (by simp) rfl
                    have d4 : G 4 = true := hd ⟨4, .guard⟩ (by simp) rfl
                    obtain rfl := g7 d7
                    obtain rfl := g8 d8
                    obtain rfl := g10 d10
                    obtain rfl := g4 d4
                    have HH := hid (show _ ∧ _ ∧ _ ∧ _ ∧ _ ∧ _ ∧ _ ∧ _ ∧ _ ∧ _ ∧ _ ∧ _ ∧ _ ∧ _ ∧ _ ∧ _ ∧ _ ∧ _ ∧ _ ∧ _ ∧ _ ∧ _ ∧ _ ∧ _ ∧ _ ∧ _ ∧ _ ∧ _ from ⟨g0, g1, g2, g3, g4, g5, g6, g7, g8, g9, g10, g11, g12, g13, g14, kw1, kw2, kw3, kc12, kc11, kc10, kc6, kc5, kc4, kc3, kc2, kc14, kc13⟩)
                    clear g0 g1 g2 g3 g4 g5 g6 g7 g8 g9 g10 g11 g12 g13 g14 kw1 kw2 kw3 kc12 kc11 kc10 kc6 kc5 kc4 kc3 kc2 kc14 kc13 hcells hd
                    refine wpOpIn_ofG rfl ?_
                    simp only [List.cons_append, List.nil_append]
                    gi_wp2
                    obtain ⟨g0, g1, g2, g3, g4, g5, g6, g7, g8, g9, g10, g11, g12, g13, g14, kw1, kw2, kw3, kc12, kc11, kc10, kc6, kc5, kc4, kc3, kc2, kc14, kc13⟩ := HH.out
                    exact ⟨_, _, _, _, _, _, _, _, _, _, _, _, _, _, _, rfl, (fun h => g0 (by simpa using h)), (fun h => g1 (by simpa using h)), (fun h => g2 (by simpa using h)), (fun h => g3 (by simpa using h)), (fun _ => rfl), (fun h => g5 (by simpa using h)), (fun h => g6 (by simpa using h)), (fun _ => rfl), (fun _ => rfl), (fun h => g9 (by simpa using h)), (fun _ => rfl), (fun _ => rfl), (fun h => g12 (by simpa using h)), (fun h => g13 (by simpa using h)), (fun h => g14 (by simpa using h)), (fun h => kw1 (by simpa using h)), (fun h h2 => kw2 (by simpa using h) (by simpa using h2)), (fun h => kw3 (by simpa using h)), (fun h => ⟨by have := (kc12 (by simpa using h)).1; simpa using this, by simp⟩), (fun h => ⟨by simp [d7], by simp [d8], by simp [d10]⟩), (fun h => (by have := (kc10 (by simpa using h)); simpa using this)), (fun h => (by have := (kc6 (by simpa using h)); simpa using this)), (fun h => (by have := (kc5 (by simpa using h)); simpa using this)), (fun h => (by have := (kc4 (by simpa using h)); simpa using this)), (fun h => ⟨by have := (kc3 (by simpa using h)).1; simpa using this, by have := (kc3 (by simpa using h)).2; simpa using this⟩), (fun h => (by have := (kc2 (by simpa using h)); simpa using this)), (fun h => (by have := (kc14 (by simpa using h)); simpa using this)), (fun h => (by have := (kc13 (by simpa using h)); simpa using this))⟩
                  · have ho : _ = o9 := Option.some.inj ho
                    subst ho
                    have d6 : G 6 = true := hd ⟨6, .data⟩ (by simp) rfl
                    have d11 : G 11 = true := hd ⟨11, .data⟩ (by simp) rfl
                    have d4 : G 4 = true := hd ⟨4, .guard⟩ (by simp) rfl
                    obtain rfl := g6 d6
                    obtain rfl := g11 d11
                    obtain rfl := g4 d4
                    obtain rfl := kw2 d6 hG
                    have h14 : G 14 = false := by cases h : G 14 with | false => rfl | true => rw [kc14 h] at hG; cases hG
                    have h13 : G 13 = false := by cases h : G 13 with | false => rfl | true => rw [kc13 h] at hG; cases hG
                    have HH := hid (show _ ∧ _ ∧ _ ∧ _ ∧ _ ∧ _ ∧ _ ∧ _ ∧ _ ∧ _ ∧ _ ∧ _ ∧ _ ∧ _ ∧ _ ∧ _ ∧ _ ∧ _ ∧ _ ∧ _ ∧ _ ∧ _ ∧ _ ∧ _ ∧ _ ∧ _ ∧ _ ∧ _ from ⟨g0, g1, g2, g3, g4, g5, g6, g7, g8, g9, g10, g11, g12, g13, g14, kw1, kw2, kw3, kc12, kc11, kc10, kc6, kc5, kc4, kc3, kc2, kc14, kc13⟩)
                    clear g0 g1 g2 g3 g4 g5 g6 g7 g8 g9 g10 g11 g12 g13 g14 kw1 kw2 kw3 kc12 kc11 kc10 kc6 kc5 kc4 kc3 kc2 kc14 kc13 hcells hd
                    refine wpOpIn_ofG rfl ?_
                    simp only [List.cons_append, List.nil_append]
                    gi_wp2
                    refine ⟨trivial, (CallsIn.inRound l8 (callsIn_wide.2 SM8.out)).mono ?_⟩
                    rintro e w10 ⟨rfl, q10, hw10⟩
                    subst hw10
                    gi_wp2
                    obtain ⟨g0, g1, g2, g3, g4, g5, g6, g7, g8, g9, g10, g11, g12, g13, g14, kw1, kw2, kw3, kc12, kc11, kc10, kc6, kc5, kc4, kc3, kc2, kc14, kc13⟩ := HH.out
                    exact ⟨_, _, _, _, _, _, _, _, _, _, _, _, _, _, _, rfl, (fun h => g0 (by simpa using h)), (fun h => g1 (by simpa using h)), (fun h => g2 (by simpa using h)), (fun h => g3 (by simpa using h)), (fun _ => rfl), (fun h => g5 (by simpa using h)), (fun _ => rfl), (fun h => g7 (by simpa using h)), (fun h => g8 (by simpa using h)), (fun h => g9 (by simpa using h)), (fun h => g10 (by simpa using h)), (fun _ => rfl), (fun _ => rfl), (fun h => g13 (by simpa using h)), (fun h => g14 (by simpa using h)), (fun h => by simp [d6] at h), (fun _ h => by simp at h), (fun _ => ⟨q10, by rw [← World.drewN_drew]; rfl⟩), (fun h => ⟨by simp [d6], by simp [d11]⟩), (fun h => ⟨by have := (kc11 (by simpa using h)).1; simpa using this, by have := (kc11 (by simpa using h)).2.1; simpa using this, by have := (kc11 (by simpa using h)).2.2; simpa using this⟩), (fun h => (by have := (kc10 (by simpa using h)); simpa using this)), (fun h => (by have := (kc6 (by simpa using h)); simpa using this)), (fun h => (by have := (kc5 (by simpa using h)); simpa using this)), (fun h => (by have := (kc4 (by simpa using h)); simpa using this)), (fun h => ⟨by have := (kc3 (by simpa using h)).1; simpa using this, by have := (kc3 (by simpa using h)).2; simpa using this⟩), (fun h => (by have := (kc2 (by simpa using h)); simpa using this)), (fun h => (by simp)), (fun h => (by simp))⟩
                  · have ho : _ = o9 := Option.some.inj ho
                    subst ho
                    have d12 : G 12 = true := hd ⟨12, .data⟩ (by simp) rfl
                    have d4 : G 4 = true := hd ⟨4, .guard⟩ (by simp) rfl
                    obtain rfl := g12 d12
                    obtain rfl := g4 d4
                    have HH := hid (show _ ∧ _ ∧ _ ∧ _ ∧ _ ∧ _ ∧ _ ∧ _ ∧ _ ∧ _ ∧ _ ∧ _ ∧ _ ∧ _ ∧ _ ∧ _ ∧ _ ∧ _ ∧ _ ∧ _ ∧ _ ∧ _ ∧ _ ∧ _ ∧ _ ∧ _ ∧ _ ∧ _ from ⟨g0, g1, g2, g3, g4, g5, g6, g7, g8, g9, g10, g11, g12, g13, g14, kw1, kw2, kw3, kc12, kc11, kc10, kc6, kc5, kc4, kc3, kc2, kc14, kc13⟩)
                    clear g0 g1 g2 g3 g4 g5 g6 g7 g8 g9 g10 g11 g12 g13 g14 kw1 kw2 kw3 kc12 kc11 kc10 kc6 kc5 kc4 kc3 kc2 kc14 kc13 hcells hd
                    refine wpOpIn_ofG rfl ?_
                    simp only [List.cons_append, List.nil_append]
                    gi_wp2
                    obtain ⟨g0, g1, g2, g3, g4, g5, g6, g7, g8, g9, g10, g11, g12, g13, g14, kw1, kw2, kw3, kc12, kc11, kc10, kc6, kc5, kc4, kc3, kc2, kc14, kc13⟩ := HH.out
                    exact ⟨_, _, _, _, _, _, _, _, _, _, _, _, _, _, _, rfl, (fun h => g0 (by simpa using h)), (fun h => g1 (by simpa using h)), (fun h => g2 (by simpa using h)), (fun h => g3 (by simpa using h)), (fun _ => rfl), (fun h => g5 (by simpa using h)), (fun h => g6 (by simpa using h)), (fun h => g7 (by simpa using h)), (fun h => g8 (by simpa using h)), (fun h => g9 (by simpa using h)), (fun h => g10 (by simpa using h)), (fun h => g11 (by simpa using h)), (fun _ => rfl), (fun _ => rfl), (fun h => g14 (by simpa using h)), (fun h => kw1 (by simpa using h)), (fun h h2 => kw2 (by simpa using h) (by simpa using h2)), (fun h => kw3 (by simpa using h)), (fun h => ⟨by have := (kc12 (by simpa using h)).1; simpa using this, by have := (kc12 (by simpa using h)).2; simpa using this⟩), (fun h => ⟨by have := (kc11 (by simpa using h)).1; simpa using this, by have := (kc11 (by simpa using h)).2.1; simpa using this, by have := (kc11 (by simpa using h)).2.2; simpa using this⟩), (fun h => (by have := (kc10 (by simpa using h)); simpa using this)), (fun h => (by have := (kc6 (by simpa using h)); simpa using this)), (fun h => (by have := (kc5 (by simpa using h)); simpa using this)), (fun h => (by have := (kc4 (by simpa using h)); simpa using this)), (fun h => ⟨by have := (kc3 (by simpa using h)).1; simpa using this, by have := (kc3 (by simpa using h)).2; simpa using this⟩), (fun h => (by have := (kc2 (by simpa using h)); simpa using this)), (fun h => (by have := (kc14 (by simpa using h)); simpa using this)), (fun h => (by simp [d12]))⟩
                  · have ho : _ = o9 := Option.some.inj ho
                    subst ho
                    have d4 : G 4 = true := hd ⟨4, .data⟩ (by simp) rfl
                    have d13 : G 13 = true := hd ⟨13, .data⟩ (by simp) rfl
                    obtain rfl := g4 d4
                    obtain rfl := g13 d13
                    have HH := hid (show _ ∧ _ ∧ _ ∧ _ ∧ _ ∧ _ ∧ _ ∧ _ ∧ _ ∧ _ ∧ _ ∧ _ ∧ _ ∧ _ ∧ _ ∧ _ ∧ _ ∧ _ ∧ _ ∧ _ ∧ _ ∧ _ ∧ _ ∧ _ ∧ _ ∧ _ ∧ _ ∧ _ from ⟨g0, g1, g2, g3, g4, g5, g6, g7, g8, g9, g10, g11, g12, g13, g14, kw1, kw2, kw3, kc12, kc11, kc10, kc6, kc5, kc4, kc3, kc2, kc14, kc13⟩)
                    clear g0 g1 g2 g3 g4 g5 g6 g7 g8 g9 g10 g11 g12 g13 g14 kw1 kw2 kw3 kc12 kc11 kc10 kc6 kc5 kc4 kc3 kc2 kc14 kc13 hcells hd
                    refine wpOpIn_ofG rfl ?_
                    simp only [List.cons_append, List.nil_append]
                    gi_wp2
                    obtain ⟨g0, g1, g2, g3, g4, g5, g6, g7, g8, g9, g10, g11, g12, g13, g14, kw1, kw2, kw3, kc12, kc11, kc10, kc6, kc5, kc4, kc3, kc2, kc14, kc13⟩ := HH.out
                    exact ⟨_, _, _, _, _, _, _, _, _, _, _, _, _, _, _, rfl, (fun h => g0 (by simpa using h)), (fun h => g1 (by simpa using h)), (fun h => g2 (by simpa using h)), (fun h => g3 (by simpa using h)), (fun _ => rfl), (fun h => g5 (by simpa using h)), (fun h => g6 (by simpa using h)), (fun h => g7 (by simpa using h)), (fun h => g8 (by simpa using h)), (fun h => g9 (by simpa using h)), (fun h => g10 (by simpa using h)), (fun h => g11 (by simpa using h)), (fun h => g12 (by simpa using h)), (fun _ => rfl), (fun _ => rfl), (fun h => kw1 (by simpa using h)), (fun h h2 => kw2 (by simpa using h) (by simpa using h2)), (fun h => kw3 (by simpa using h)), (fun h => ⟨by have := (kc12 (by simpa using h)).1; simpa using this, by have := (kc12 (by simpa using h)).2; simpa using this⟩), (fun h => ⟨by have := (kc11 (by simpa using h)).1; simpa using this, by have := (kc11 (by simpa using h)).2.1; simpa using this, by have := (kc11 (by simpa using h)).2.2; simpa using this⟩), (fun h => (by have := (kc10 (by simpa using h)); simpa using this)), (fun h => (by have := (kc6 (by simpa using h)); simpa using this)), (fun h => (by have := (kc5 (by simpa using h)); simpa using this)), (fun h => (by have := (kc4 (by simpa using h)); simpa using this)), (fun h => ⟨by have := (kc3 (by simpa using h)).1; simpa using this, by have := (kc3 (by simpa using h)).2; simpa using this⟩), (fun h => (by have := (kc2 (by simpa using h)); simpa using this)), (fun h => (by have := kc13 d13; simpa using this)), (fun h => (by have := (kc13 (by simpa using h)); simpa using this))⟩
            case mhstep =>
              intro G i9 o9 ac w9 ho hG hd hI
              have hi9 : i9 < 17 := (Array.getElem?_eq_some_iff.1 ho).1
              obtain ⟨t0, t1, t2, t3, t4, t5, t6, t7, t8, t9, t10, t11, t12, t13, t14, t15, t16, rfl, g0, g1, g2, g3, g4, g5, g6, g7, g8, g9, g10, g11, g12, g13, g14, g15, g16, kw1, kw2, kw3, kc7, kc15, kc16⟩ := hI
              have hcells : G 15 = false → w9.cell? ⟨w1.heap.size, 0, none⟩ = some (.pointer (some ⟨g, 0, none⟩)) ∧ w9.cell? ⟨w2.heap.size, 0, none⟩ = some (.pointer (some ⟨R, 0, none⟩)) ∧ w9.cell? ⟨W9.heap.size, 2, none⟩ = some (.int .i64 y.num) ∧ w9.cell? ⟨W9.heap.size, 3, none⟩ = some (.int .i64 y.at_) ∧ w9.cell? ⟨W9.heap.size, 4, none⟩ = some (.slice y.d1 y.d2 y.d3) := fun h15 => by
                cases h7 : G 7 with
                | false => rw [kw1 h7]; exact ⟨kX, kY, kA2, kA3, kA4⟩
                | true => exact MC.out _ (kw2 h7 h15)
              have hcs : i9 = 0 ∨ i9 = 1 ∨ i9 = 2 ∨ i9 = 3 ∨ i9 = 4 ∨ i9 = 5 ∨ i9 = 6 ∨ i9 = 7 ∨ i9 = 8 ∨ i9 = 9 ∨ i9 = 10 ∨ i9 = 11 ∨ i9 = 12 ∨ i9 = 13 ∨ i9 = 14 ∨ i9 = 15 ∨ i9 = 16 := by omega
              rcases hcs with rfl | rfl | rfl | rfl | rfl | rfl | rfl | rfl | rfl | rfl | rfl | rfl | rfl | rfl | rfl | rfl | rfl
              · have ho : _ = o9 := Option.some.inj ho
                subst ho
                have h7 : G 7 = false := by cases h : G 7 with | false => rfl | true => rw [(kc7 h).1] at hG; cases hG
                have h15 : G 15 = false := by cases h : G 15 with | false => rfl | true => rw [(kc15 h).2.2.2.2] at h7; cases h7
                obtain ⟨q1, q2, q3, q4, q5⟩ := hcells h15
                have HH := hid (show _ ∧ _ ∧ _ ∧ _ ∧ _ ∧ _ ∧ _ ∧ _ ∧ _ ∧ _ ∧ _ ∧ _ ∧ _ ∧ _ ∧ _ ∧ _ ∧ _ ∧ _ ∧ _ ∧ _ ∧ _ ∧ _ ∧ _ from ⟨g0, g1, g2, g3, g4, g5, g6, g7, g8, g9, g10, g11, g12, g13, g14, g15, g16, kw1, kw2, kw3, kc7, kc15, kc16⟩)
                clear g0 g1 g2 g3 g4 g5 g6 g7 g8 g9 g10 g11 g12 g13 g14 g15 g16 kw1 kw2 kw3 kc7 kc15 kc16 hcells hd
                refine wpOpIn_of rfl rfl ?_
                simp only [List.cons_append, List.nil_append]
                gi_wp2
                obtain ⟨g0, g1, g2, g3, g4, g5, g6, g7, g8, g9, g10, g11, g12, g13, g14, g15, g16, kw1, kw2, kw3, kc7, kc15, kc16⟩ := HH.out
                exact ⟨_, _, _, _, _, _, _, _, _, _, _, _, _, _, _, _, _, rfl, (fun _ => rfl), (fun h => g1 (by simpa using h)), (fun h => g2 (by simpa using h)), (fun h => g3 (by simpa using h)), (fun h => g4 (by simpa using h)), (fun h => g5 (by simpa using h)), (fun h => g6 (by simpa using h)), (fun h => g7 (by simpa using h)), (fun h => g8 (by simpa using h)), (fun h => g9 (by simpa using h)), (fun h => g10 (by simpa using h)), (fun h => g11 (by simpa using h)), (fun h => g12 (by simpa using h)), (fun h => g13 (by simpa using h)), (fun h => g14 (by simpa using h)), (fun h => g15 (by simpa using h)), (fun h => g16 (by simpa using h)), (fun h => kw1 (by simpa using h)), (fun h h2 => kw2 (by simpa using h) (by simpa using h2)), (fun h => kw3 (by simpa using h)), (fun h => ⟨by simp, by have := (kc7 (by simpa using h)).2.1; simpa using this, by have := (kc7 (by simpa using h)).2.2.1; simpa using this, by have := (kc7 (by simpa using h)).2.2.2; simpa using this⟩), (fun h => ⟨by have := (kc15 (by simpa using h)).1; simpa using this, by have := (kc15 (by simpa using h)).2.1; simpa using this, by have := (kc15 (by simpa using h)).2.2.1; simpa using this, by have := (kc15 (by simpa using h)).2.2.2.1; simpa using this, by have := (kc15 (by simpa using h)).2.2.2.2; simpa using this⟩), (fun h => (by have := (kc16 (by simpa using h)); simpa using this))⟩
              · have ho : _ = o9 := Option.some.inj ho
                subst ho
                have HH := hid (show _ ∧ _ ∧ _ ∧ _ ∧ _ ∧ _ ∧ _ ∧ _ ∧ _ ∧ _ ∧ _ ∧ _ ∧ _ ∧ _ ∧ _ ∧ _ ∧ _ ∧ _ ∧ _ ∧ _ ∧ _ ∧ _ ∧ _ from ⟨g0, g1, g2, g3, g4, g5, g6, g7, g8, g9, g10, g11, g12, g13, g14, g15, g16, kw1, kw2, kw3, kc7, kc15, kc16⟩)
                clear g0 g1 g2 g3 g4 g5 g6 g7 g8 g9 g10 g11 g12 g13 g14 g15 g16 kw1 kw2 kw3 kc7 kc15 kc16 hcells hd
                refine wpOpIn_of rfl rfl ?_
                simp only [List.cons_append, List.nil_append]
                gi_wp2
                obtain ⟨g0, g1, g2, g3, g4, g5, g6, g7, g8, g9, g10, g11, g12, g13, g14, g15, g16, kw1, kw2, kw3, kc7, kc15, kc16⟩ := HH.out
                exact ⟨_, _, _, _, _, _, _, _, _, _, _, _, _, _, _, _, _, rfl, (fun h => g0 (by simpa using h)), (fun _ => rfl), (fun h => g2 (by simpa using h)), (fun h => g3 (by simpa using h)), (fun h => g4 (by simpa using h)), (fun h => g5 (by simpa using h)), (fun h => g6 (by simpa using h)), (fun h => g7 (by simpa using h)), (fun h => g8 (by simpa using h)), (fun h => g9 (by simpa using h)), (fun h => g10 (by simpa using h)), (fun h => g11 (by simpa using h)), (fun h => g12 (by simpa using h)), (fun h => g13 (by simpa using h)), (fun h => g14 (by simpa using h)), (fun h => g15 (by simpa using h)), (fun h => g16 (by simpa using h)), (fun h => kw1 (by simpa using h)), (fun h h2 => kw2 (by simpa using h) (by simpa using h2)), (fun h => kw3 (by simpa using h)), (fun h => ⟨by have := (kc7 (by simpa using h)).1; simpa using this, by have := (kc7 (by simpa using h)).2.1; simpa using this, by have := (kc7 (by simpa using h)).2.2.1; simpa using this, by have := (kc7 (by simpa using h)).2.2.2; simpa using this⟩), (fun h => ⟨by have := (kc15 (by simpa using h)).1; simpa using this, by have := (kc15 (by simpa using h)).2.1; simpa using this, by have := (kc15 (by simpa using h)).2.2.1; simpa using this, by have := (kc15 (by simpa using h)).2.2.2.1; simpa using this, by have := (kc15 (by simpa using h)).2.2.2.2; simpa using this⟩), (fun h => (by have := (kc16 (by simpa using h)); simpa using this))⟩
              · have ho : _ = o9 := Option.some.inj ho
                subst ho
                have d1 : G 1 = true := hd ⟨1, .data⟩ (by simp) rfl
                obtain rfl := g1 d1
                have h7 : G 7 = false := by cases h : G 7 with | false => rfl | true => rw [(kc7 h).2.1] at hG; cases hG
                have h15 : G 15 = false := by cases h : G 15 with | false => rfl | true => rw [(kc15 h).2.2.2.2] at h7; cases h7
                obtain ⟨q1, q2, q3, q4, q5⟩ := hcells h15
                have HH := hid (show _ ∧ _ ∧ _ ∧ _ ∧ _ ∧ _ ∧ _ ∧ _ ∧ _ ∧ _ ∧ _ ∧ _ ∧ _ ∧ _ ∧ _ ∧ _ ∧ _ ∧ _ ∧ _ ∧ _ ∧ _ ∧ _ ∧ _ from ⟨g0, g1, g2, g3, g4, g5, g6, g7, g8, g9, g10, g11, g12, g13, g14, g15, g16, kw1, kw2, kw3, kc7, kc15, kc16⟩)
                clear g0 g1 g2 g3 g4 g5 g6 g7 g8 g9 g10 g11 g12 g13 g14 g15 g16 kw1 kw2 kw3 kc7 kc15 kc16 hcells hd
                refine wpOpIn_of rfl rfl ?_
                simp only [List.cons_append, List.nil_append]
                gi_wp2
                obtain ⟨g0, g1, g2, g3, g4, g5, g6, g7, g8, g9, g10, g11, g12, g13, g14, g15, g16, kw1, kw2, kw3, kc7, kc15, kc16⟩ := HH.out
                exact ⟨_, _, _, _, _, _, _, _, _, _, _, _, _, _, _, _, _, rfl, (fun h => g0 (by simpa using h)), (fun _ => rfl), (fun _ => rfl), (fun h => g3 (by simpa using h)), (fun h => g4 (by simpa using h)), (fun h => g5 (by simpa using h)), (fun h => g6 (by simpa using h)), (fun h => g7 (by simpa using h)), (fun h => g8 (by simpa using h)), (fun h => g9 (by simpa using h)), (fun h => g10 (by simpa using h)), (fun h => g11 (by simpa using h)), (fun h => g12 (by simpa using h)), (fun h => g13 (by simpa using h)), (fun h => g14 (by simpa using h)), (fun h => g15 (by simpa using h)), (fun h => g16 (by simpa using h)), (fun h => kw1 (by simpa using h)), (fun h h2 => kw2 (by simpa using h) (by simpa using h2)), (fun h => kw3 (by simpa using h)), (fun h => ⟨by have := (kc7 (by simpa using h)).1; simpa using this, by simp, by have := (kc7 (by simpa using h)).2.2.1; simpa using this, by have := (kc7 (by simpa using h)).2.2.2; simpa using this⟩), (fun h => ⟨by have := (kc15 (by simpa using h)).1; simpa using this, by have := (kc15 (by simpa using h)).2.1; simpa using this, by have := (kc15 (by simpa using h)).2.2.1; simpa using this, by have := (kc15 (by simpa using h)).2.2.2.1; simpa using this, by have := (kc15 (by simpa using h)).2.2.2.2; simpa using this⟩), (fun h => (by have := (kc16 (by simpa using h)); simpa using this))⟩
              · have ho : _ = o9 := Option.some.inj ho
                subst ho
                have HH := hid (show _ ∧ _ ∧ _ ∧ _ ∧ _ ∧ _ ∧ _ ∧ _ ∧ _ ∧ _ ∧ _ ∧ _ ∧ _ ∧ _ ∧ _ ∧ _ ∧ _ ∧ _ ∧ _ ∧ _ ∧ _ ∧ _ ∧ _ from ⟨g0, g1, g2, g3, g4, g5, g6, g7, g8, g9, g10, g11, g12, g13, g14, g15, g16, kw1, kw2, kw3, kc7, kc15, kc16⟩)
                clear g0 g1 g2 g3 g4 g5 g6 g7 g8 g9 g10 g11 g12 g13 g14 g15 g16 kw1 kw2 kw3 kc7 kc15 kc16 hcells hd
                refine wpOpIn_of rfl rfl ?_
                simp only [List.cons_append, List.nil_append]
                gi_wp2
                obtain ⟨g0, g1, g2, g3, g4, g5, g6, g7, g8, g9, g10, g11, g12, g13, g14, g15, g16, kw1, kw2, kw3, kc7, kc15, kc16⟩ := HH.out
                exact ⟨_, _, _, _, _, _, _, _, _, _, _, _, _, _, _, _, _, rfl, (fun h => g0 (by simpa using h)), (fun h => g1 (by simpa using h)), (fun h => g2 (by simpa using h)), (fun _ => rfl), (fun h => g4 (by simpa using h)), (fun h => g5 (by simpa using h)), (fun h => g6 (by simpa using h)), (fun h => g7 (by simpa using h)), (fun h => g8 (by simpa using h)), (fun h => g9 (by simpa using h)), (fun h => g10 (by simpa using h)), (fun h => g11 (by simpa using h)), (fun h => g12 (by simpa using h)), (fun h => g13 (by simpa using h)), (fun h => g14 (by simpa using h)), (fun h => g15 (by simpa using h)), (fun h => g16 (by simpa using h)), (fun h => kw1 (by simpa using h)), (fun h h2 => kw2 (by simpa using h) (by simpa using h2)), (fun h => kw3 (by simpa using h)), (fun h => ⟨by have := (kc7 (by simpa using h)).1; simpa using this, by have := (kc7 (by simpa using h)).2.1; simpa using this, by have := (kc7 (by simpa using h)).2.2.1; simpa using this, by have := (kc7 (by simpa using h)).2.2.2; simpa using this⟩), (fun h => ⟨by have := (kc15 (by simpa using h)).1; simpa using this, by have := (kc15 (by simpa using h)).2.1; simpa using this, by have := (kc15 (by simpa using h)).2.2.1; simpa using this, by have := (kc15 (by simpa using h)).2.2.2.1; simpa using this, by have := (kc15 (by simpa using h)).2.2.2.2; simpa using this⟩), (fun h => (by have := (kc16 (by simpa using h)); simpa using this))⟩
              · have ho : _ = o9 := Option.some.inj ho
                subst ho
                have d3 : G 3 = true := hd ⟨3, .data⟩ (by simp) rfl
                obtain rfl := g3 d3
                have h7 : G 7 = false := by cases h : G 7 with | false => rfl | true => rw [(kc7 h).2.2.1] at hG; cases hG
                have h15 : G 15 = false := by cases h : G 15 with | false => rfl | true => rw [(kc15 h).2.2.2.2] at h7; cases h7
                obtain ⟨q1, q2, q3, q4, q5⟩ := hcells h15
                have HH := hid (show _ ∧ _ ∧ _ ∧ _ ∧ _ ∧ _ ∧ _ ∧ _ ∧ _ ∧ _ ∧ _ ∧ _ ∧ _ ∧ _ ∧ _ ∧ _ ∧ _ ∧ _ ∧ _ ∧ _ ∧ _ ∧ _ ∧ _ from ⟨g0, g1, g2, g3, g4, g5, g6, g7, g8, g9, g10, g11, g12, g13, g14, g15, g16, kw1, kw2, kw3, kc7, kc15, kc16⟩)
                clear g0 g1 g2 g3 g4 g5 g6 g7 g8 g9 g10 g11 g12 g13 g14 g15 g16 kw1 kw2 kw3 kc7 kc15 kc16 hcells hd
                refine wpOpIn_of rfl rfl ?_
                simp only [List.cons_append, List.nil_append]
                gi_wp2
                obtain ⟨g0, g1, g2, g3, g4, g5, g6, g7, g8, g9, g10, g11, g12, g13, g14, g15, g16, kw1, kw2, kw3, kc7, kc15, kc16⟩ := HH.out
                exact ⟨_, _, _, _, _, _, _, _, _, _, _, _, _, _, _, _, _, rfl, (fun h => g0 (by simpa using h)), (fun h => g1 (by simpa using h)), (fun h => g2 (by simpa using h)), (fun _ => rfl), (fun _ => rfl), (fun h => g5 (by simpa using h)), (fun h => g6 (by simpa using h)), (fun h => g7 (by simpa using h)), (fun h => g8 (by simpa using h)), (fun h => g9 (by simpa using h)), (fun h => g10 (by simpa using h)), (fun h => g11 (by simpa using h)), (fun h => g12 (by simpa using h)), (fun h => g13 (by simpa using h)), (fun h => g14 (by simpa using h)), (fun h => g15 (by simpa using h)), (fun h => g16 (by simpa using h)), (fun h => kw1 (by simpa using h)), (fun h h2 => kw2 (by simpa using h) (by simpa using h2)), (fun h => kw3 (by simpa using h)), (fun h => ⟨by have := (kc7 (by simpa using h)).1; simpa using this, by have := (kc7 (by simpa using h)).2.1; simpa using this, by simp, by have := (kc7 (by simpa using h)).2.2.2; simpa using this⟩), (fun h => ⟨by have := (kc15 (by simpa using h)).1; simpa using this, by have := (kc15 (by simpa using h)).2.1; simpa using this, by have := (kc15 (by simpa using h)).2.2.1; simpa using this, by have := (kc15 (by simpa using h)).2.2.2.1; simpa using this, by have := (kc15 (by simpa using h)).2.2.2.2; simpa using this⟩), (fun h => (by have := (kc16 (by simpa using h)); simpa using this))⟩
              · have ho : _ = o9 := Option.some.inj ho
                subst ho
                have HH := hid (show _ ∧ _ ∧ _ ∧ _ ∧ _ ∧ _ ∧ _ ∧ _ ∧ _ ∧ _ ∧ _ ∧ _ ∧ _ ∧ _ ∧ _ ∧ _ ∧ _ ∧ _ ∧ _ ∧ _ ∧ _ ∧ _ ∧ _ from ⟨g0, g1, g2, g3, g4, g5, g6, g7, g8, g9, g10, g11, g12, g13, g14, g15, g16, kw1, kw2, kw3, kc7, kc15, kc16⟩)
                clear g0 g1 g2 g3 g4 g5 g6 g7 g8 g9 g10 g11 g12 g13 g14 g15 g16 kw1 kw2 kw3 kc7 kc15 kc16 hcells hd
                refine wpOpIn_of rfl rfl ?_
                simp only [List.cons_append, List.nil_append]
                gi_wp2
                obtain ⟨g0, g1, g2, g3, g4, g5, g6, g7, g8, g9, g10, g11, g12, g13, g14, g15, g16, kw1, kw2, kw3, kc7, kc15, kc16⟩ := HH.out
                exact ⟨_, _, _, _, _, _, _, _, _, _, _, _, _, _, _, _, _, rfl, (fun h => g0 (by simpa using h)), (fun h => g1 (by simpa using h)), (fun h => g2 (by simpa using h)), (fun h => g3 (by simpa using h)), (fun h => g4 (by simpa using h)), (fun _ => rfl), (fun h => g6 (by simpa using h)), (fun h => g7 (by simpa using h)), (fun h => g8 (by simpa using h)), (fun h => g9 (by simpa using h)), (fun h => g10 (by simpa using h)), (fun h => g11 (by simpa using h)), (fun h => g12 (by simpa using h)), (fun h => g13 (by simpa using h)), (fun h => g14 (by simpa using h)), (fun h => g15 (by simpa using h)), (fun h => g16 (by simpa using h)), (fun h => kw1 (by simpa using h)), (fun h h2 => kw2 (by simpa using h) (by simpa using h2)), (fun h => kw3 (by simpa using h)), (fun h => ⟨by have := (kc7 (by simpa using h)).1; simpa using this, by have := (kc7 (by simpa using h)).2.1; simpa using this, by have := (kc7 (by simpa using h)).2.2.1; simpa using this, by have := (kc7 (by simpa using h)).2.2.2; simpa using this⟩), (fun h => ⟨by have := (kc15 (by simpa using h)).1; simpa using this, by have := (kc15 (by simpa using h)).2.1; simpa using this, by have := (kc15 (by simpa using h)).2.2.1; simpa using this, by have := (kc15 (by simpa using h)).2.2.2.1; simpa using this, by have := (kc15 (by simpa using h)).2.2.2.2; simpa using this⟩), (fun h => (by have := (kc16 (by simpa using h)); simpa using this))⟩
              · have ho : _ = o9 := Option.some.inj ho
                subst ho
                have d5 : G 5 = true := hd ⟨5, .data⟩ (by simp) rfl
                obtain rfl := g5 d5
                have h7 : G 7 = false := by cases h : G 7 with | false => rfl | true => rw [(kc7 h).2.2.2] at hG; cases hG
                have h15 : G 15 = false := by cases h : G 15 with | false => rfl | true => rw [(kc15 h).2.2.2.2] at h7; cases h7
                obtain ⟨q1, q2, q3, q4, q5⟩ := hcells h15
                have HH := hid (show _ ∧ _ ∧ _ ∧ _ ∧ _ ∧ _ ∧ _ ∧ _ ∧ _ ∧ _ ∧ _ ∧ _ ∧ _ ∧ _ ∧ _ ∧ _ ∧ _ ∧ _ ∧ _ ∧ _ ∧ _ ∧ _ ∧ _ from ⟨g0, g1, g2, g3, g4, g5, g6, g7, g8, g9, g10, g11, g12, g13, g14, g15, g16, kw1, kw2, kw3, kc7, kc15, kc16⟩)
                clear g0 g1 g2 g3 g4 g5 g6 g7 g8 g9 g10 g11 g12 g13 g14 g15 g16 kw1 kw2 kw3 kc7 kc15 kc16 hcells hd
                refine wpOpIn_of rfl rfl ?_
                simp only [List.cons_append, List.nil_append]
                gi_wp2
                obtain ⟨g0, g1, g2, g3, g4, g5, g6, g7, g8, g9, g10, g11, g12, g13, g14, g15, g16, kw1, kw2, kw3, kc7, kc15, kc16⟩ := HH.out
                exact ⟨_, _, _, _, _, _, _, _, _, _, _, _, _, _, _, _, _, rfl, (fun h => g0 (by simpa using h)), (fun h => g1 (by simpa using h)), (fun h => g2 (by simpa using h)), (fun h => g3 (by simpa using h)), (fun h => g4 (by simpa using h)), (fun _ => rfl), (fun _ => rfl), (fun h => g7 (by simpa using h)), (fun h => g8 (by simpa using h)), (fun h => g9 (by simpa using h)), (fun h => g10 (by simpa using h)), (fun h => g11 (by simpa using h)), (fun h => g12 (by simpa using h)), (fun h => g13 (by simpa using h)), (fun h => g14 (by simpa using h)), (fun h => g15 (by simpa using h)), (fun h => g16 (by simpa using h)), (fun h => kw1 (by simpa using h)), (fun h h2 => kw2 (by simpa using h) (by simpa using h2)), (fun h => kw3 (by simpa using h)), (fun h => ⟨by have := (kc7 (by simpa using h)).1; simpa using this, by have := (kc7 (by simpa using h)).2.1; simpa using this, by have := (kc7 (by simpa using h)).2.2.1; simpa using this, by simp⟩), (fun h => ⟨by have := (kc15 (by simpa using h)).1; simpa using this, by have := (kc15 (by simpa using h)).2.1; simpa using this, by have := (kc15 (by simpa using h)).2.2.1; simpa using this, by have := (kc15 (by simpa using h)).2.2.2.1; simpa using this, by have := (kc15 (by simpa using h)).2.2.2.2; simpa using this⟩), (fun h => (by have := (kc16 (by simpa using h)); simpa using this))⟩
              · have ho : _ = o9 := Option.some.inj ho
                subst ho
                have d0 : G 0 = true := hd ⟨0, .data⟩ (by simp) rfl
                have d2 : G 2 = true := hd ⟨2, .data⟩ (by simp) rfl
                have d4 : G 4 = true := hd ⟨4, .data⟩ (by simp) rfl
                have d6 : G 6 = true := hd ⟨6, .data⟩ (by simp) rfl
                obtain rfl := g0 d0
                obtain rfl := g2 d2
                obtain rfl := g4 d4
                obtain rfl := g6 d6
                have h15 : G 15 = false := by cases h : G 15 with | false => rfl | true => rw [(kc15 h).2.2.2.2] at hG; cases hG
                have h16 : G 16 = false := by cases h : G 16 with | false => rfl | true => rw [kc16 h] at h15; cases h15
                obtain rfl := kw1 hG
                have HH := hid (show _ ∧ _ ∧ _ ∧ _ ∧ _ ∧ _ ∧ _ ∧ _ ∧ _ ∧ _ ∧ _ ∧ _ ∧ _ ∧ _ ∧ _ ∧ _ ∧ _ ∧ _ ∧ _ ∧ _ ∧ _ ∧ _ ∧ _ from ⟨g0, g1, g2, g3, g4, g5, g6, g7, g8, g9, g10, g11, g12, g13, g14, g15, g16, kw1, kw2, kw3, kc7, kc15, kc16⟩)
                clear g0 g1 g2 g3 g4 g5 g6 g7 g8 g9 g10 g11 g12 g13 g14 g15 g16 kw1 kw2 kw3 kc7 kc15 kc16 hcells hd
                refine wpOpIn_of rfl rfl ?_
                simp only [List.cons_append, List.nil_append]
                gi_wp2
                refine ⟨trivial, (CallsIn.inRound l (callsIn_wide.2 C1.out)).mono ?_⟩
                rintro e w10 ⟨rfl, hm10⟩
                have hm10 := hid hm10
                gi_wp2
                obtain ⟨g0, g1, g2, g3, g4, g5, g6, g7, g8, g9, g10, g11, g12, g13, g14, g15, g16, kw1, kw2, kw3, kc7, kc15, kc16⟩ := HH.out
                exact ⟨_, _, _, _, _, _, _, _, _, _, _, _, _, _, _, _, _, rfl, (fun _ => rfl), (fun h => g1 (by simpa using h)), (fun _ => rfl), (fun h => g3 (by simpa using h)), (fun _ => rfl), (fun h => g5 (by simpa using h)), (fun _ => rfl), (fun _ => rfl), (fun h => g8 (by simpa using h)), (fun h => g9 (by simpa using h)), (fun h => g10 (by simpa using h)), (fun h => g11 (by simpa using h)), (fun h => g12 (by simpa using h)), (fun h => g13 (by simpa using h)), (fun h => g14 (by simpa using h)), (fun h => g15 (by simpa using h)), (fun h => g16 (by simpa using h)), (fun h => by simp at h), (fun _ _ => hm10.out), (fun h => by simp [h15] at h), (fun h => ⟨by simp [d0], by simp [d2], by simp [d4], by simp [d6]⟩), (fun h => ⟨by have := (kc15 (by simpa using h)).1; simpa using this, by have := (kc15 (by simpa using h)).2.1; simpa using this, by have := (kc15 (by simpa using h)).2.2.1; simpa using this, by have := (kc15 (by simpa using h)).2.2.2.1; simpa using this, by simp⟩), (fun h => (by have := (kc16 (by simpa using h)); simpa using this))⟩
              · have ho : _ = o9 := Option.some.inj ho
                subst ho
                have h15 : G 15 = false := by cases h : G 15 with | false => rfl | true => rw [(kc15 h).1] at hG; cases hG
                obtain ⟨q1, q2, q3, q4, q5⟩ := hcells h15
                have HH := hid (show _ ∧ _ ∧ _ ∧ _ ∧ _ ∧ _ ∧ _ ∧ _ ∧ _ ∧ _ ∧ _ ∧ _ ∧ _ ∧ _ ∧ _ ∧ _ ∧ _ ∧ _ ∧ _ ∧ _ ∧ _ ∧ _ ∧ _ from ⟨g0, g1, g2, g3, g4, g5, g6, g7, g8, g9, g10, g11, g12, g13, g14, g15, g16, kw1, kw2, kw3, kc7, kc15, kc16⟩)
                clear g0 g1 g2 g3 g4 g5 g6 g7 g8 g9 g10 g11 g12 g13 g14 g15 g16 kw1 kw2 kw3 kc7 kc15 kc16 hcells hd
                refine wpOpIn_of rfl rfl ?_
                simp only [List.cons_append, List.nil_append]
                gi_wp2
                obtain ⟨g0, g1, g2, g3, g4, g5, g6, g7, g8, g9, g10, g11, g12, g13, g14, g15, g16, kw1, kw2, kw3, kc7, kc15, kc16⟩ := HH.out
                exact ⟨_, _, _, _, _, _, _, _, _, _, _, _, _, _, _, _, _, rfl, (fun h => g0 (by simpa using h)), (fun h => g1 (by simpa using h)), (fun h => g2 (by simpa using h)), (fun h => g3 (by simpa using h)), (fun h => g4 (by simpa using h)), (fun h => g5 (by simpa using h)), (fun h => g6 (by simpa using h)), (fun h => g7 (by simpa using h)), (fun _ => rfl), (fun h => g9 (by simpa using h)), (fun h => g10 (by simpa using h)), (fun h => g11 (by simpa using h)), (fun h => g12 (by simpa using h)), (fun h => g13 (by simpa using h)), (fun h => g14 (by simpa using h)), (fun h => g15 (by simpa using h)), (fun h => g16 (by simpa using h)), (fun h => kw1 (by simpa using h)), (fun h h2 => kw2 (by simpa using h) (by simpa using h2)), (fun h => kw3 (by simpa using h)), (fun h => ⟨by have := (kc7 (by simpa using h)).1; simpa using this, by have := (kc7 (by simpa using h)).2.1; simpa using this, by have := (kc7 (by simpa using h)).2.2.1; simpa using this, by have := (kc7 (by simpa using h)).2.2.2; simpa using this⟩), (fun h => ⟨by simp, by have := (kc15 (by simpa using h)).2.1; simpa using this, by have := (kc15 (by simpa using h)).2.2.1; simpa using this, by have := (kc15 (by simpa using h)).2.2.2.1; simpa using this, by have := (kc15 (by simpa using h)).2.2.2.2; simpa using this⟩), (fun h => (by have := (kc16 (by simpa using h)); simpa using this))⟩
              · have ho : _ = o9 := Option.some.inj ho
                subst ho
                have HH := hid (show _ ∧ _ ∧ _ ∧ _ ∧ _ ∧ _ ∧ _ ∧ _ ∧ _ ∧ _ ∧ _ ∧ _ ∧ _ ∧ _ ∧ _ ∧ _ ∧ _ ∧ _ ∧ _ ∧ _ ∧ _ ∧ _ ∧ _ from ⟨g0, g1, g2, g3, g4, g5, g6, g7, g8, g9, g10, g11, g12, g13, g14, g15, g16, kw1, kw2, kw3, kc7, kc15, kc16⟩)
                clear g0 g1 g2 g3 g4 g5 g6 g7 g8 g9 g10 g11 g12 g13 g14 g15 g16 kw1 kw2 kw3 kc7 kc15 kc16 hcells hd
                refine wpOpIn_of rfl rfl ?_
                simp only [List.cons_append, List.nil_append]
                gi_wp2
                obtain ⟨g0, g1, g2, g3, g4, g5, g6, g7, g8, g9, g10, g11, g12, g13, g14, g15, g16, kw1, kw2, kw3, kc7, kc15, kc16⟩ := HH.out
                exact ⟨_, _, _, _, _, _, _, _, _, _, _, _, _, _, _, _, _, rfl, (fun h => g0 (by simpa using h)), (fun h => g1 (by simpa using h)), (fun h => g2 (by simpa using h)), (fun h => g3 (by simpa using h)), (fun h => g4 (by simpa using h)), (fun h => g5 (by simpa using h)), (fun h => g6 (by simpa using h)), (fun h => g7 (by simpa using h)), (fun h => g8 (by simpa using h)), (fun _ => rfl), (fun h => g10 (by simpa using h)), (fun h => g11 (by simpa using h)), (fun h => g12 (by simpa using h)), (fun h => g13 (by simpa using h)), (fun h => g14 (by simpa using h)), (fun h => g15 (by simpa using h)), (fun h => g16 (by simpa using h)), (fun h => kw1 (by simpa using h)), (fun h h2 => kw2 (by simpa using h) (by simpa using h2)), (fun h => kw3 (by simpa using h)), (fun h => ⟨by have := (kc7 (by simpa using h)).1; simpa using this, by have := (kc7 (by simpa using h)).2.1; simpa using this, by have := (kc7 (by simpa using h)).2.2.1; simpa using this, by have := (kc7 (by simpa using h)).2.2.2; simpa using this⟩), (fun h => ⟨by have := (kc15 (by simpa using h)).1; simpa using this, by have := (kc15 (by simpa using h)).2.1; simpa using this, by have := (kc15 (by simpa using h)).2.2.1; simpa using this, by have := (kc15 (by simpa using h)).2.2.2.1; simpa using this, by have := (kc15 (by simpa using h)).2.2.2.2; simpa using this⟩), (fun h => (by have := (kc16 (by simpa using h)); simpa using this))⟩
              · have ho : _ = o9 := Option.some.inj ho
                subst ho
                have d9 : G 9 = true := hd ⟨9, .data⟩ (by simp) rfl
                obtain rfl := g9 d9
                have h15 : G 15 = false := by cases h : G 15 with | false => rfl | true => rw [(kc15 h).2.1] at hG; cases hG
                obtain ⟨q1, q2, q3, q4, q5⟩ := hcells h15
                have HH := hid (show _ ∧ _ ∧ _ ∧ _ ∧ _ ∧ _ ∧ _ ∧ _ ∧ _ ∧ _ ∧ _ ∧ _ ∧ _ ∧ _ ∧ _ ∧ _ ∧ _ ∧ _ ∧ _ ∧ _ ∧ _ ∧ _ ∧ _ from ⟨g0, g1, g2, g3, g4, g5, g6, g7, g8, g9, g10, g11, g12, g13, g14, g15, g16, kw1, kw2, kw3, kc7, kc15, kc16⟩)
                clear g0 g1 g2 g3 g4 g5 g6 g7 g8 g9 g10 g11 g12 g13 g14 g15 g16 kw1 kw2 kw3 kc7 kc15 kc16 hcells hd
                refine wpOpIn_of rfl rfl ?_
                simp only [List.cons_append, List.nil_append]
                gi_wp2
                obtain ⟨g0, g1, g2, g3, g4, g5, g6, g7, g8, g9, g10, g11, g12, g13, g14, g15, g16, kw1, kw2, kw3, kc7, kc15, kc16⟩ := HH.out
                exact ⟨_, _, _, _, _, _, _, _, _, _, _, _, _, _, _, _, _, rfl, (fun h => g0 (by simpa using h)), (fun h => g1 (by simpa using h)), (fun h => g2 (by simpa using h)), (fun h => g3 (by simpa using h)), (fun h => g4 (by simpa using h)), (fun h => g5 (by simpa using h)), (fun h => g6 (by simpa using h)), (fun h => g7 (by simpa using h)), (fun h => g8 (by simpa using h)), (fun _ => rfl), (fun _ => rfl), (fun h => g11 (by simpa using h)), (fun h => g12 (by simpa using h)), (fun h => g13 (by simpa using h)), (fun h => g14 (by simpa using h)), (fun h => g15 (by simpa using h)), (fun h => g16 (by simpa using h)), (fun h => kw1 (by simpa using h)), (fun h h2 => kw2 (by simpa using h) (by simpa using h2)), (fun h => kw3 (by simpa using h)), (fun h => ⟨by have := (kc7 (by simpa using h)).1; simpa using this, by have := (kc7 (by simpa using h)).2.1; simpa using this, by have := (kc7 (by simpa using h)).2.2.1; simpa using this, by have := (kc7 (by simpa using h)).2.2.2; simpa using this⟩), (fun h => ⟨by have := (kc15 (by simpa using h)).1; simpa using this, by simp, by have := (kc15 (by simpa using h)).2.2.1; simpa using this, by have := (kc15 (by simpa using h)).2.2.2.1; simpa using this, by have := (kc15 (by simpa using h)).2.2.2.2; simpa using this⟩), (fun h => (by have := (kc16 (by simpa using h)); simpa using this))⟩
              · have ho : _ = o9 := Option.some.inj ho
                subst ho
                have HH := hid (show _ ∧ _ ∧ _ ∧ _ ∧ _ ∧ _ ∧ _ ∧ _ ∧ _ ∧ _ ∧ _ ∧ _ ∧ _ ∧ _ ∧ _ ∧ _ ∧ _ ∧ _ ∧ _ ∧ _ ∧ _ ∧ _ ∧ _ from ⟨g0, g1, g2, g3, g4, g5, g6, g7, g8, g9, g10, g11, g12, g13, g14, g15, g16, kw1, kw2, kw3, kc7, kc15, kc16⟩)
                clear g0 g1 g2 g3 g4 g5 g6 g7 g8 g9 g10 g11 g12 g13 g14 g15 g16 kw1 kw2 kw3 kc7 kc15 kc16 hcells hd
                refine wpOpIn_of rfl rfl ?_
                simp only [List.cons_append, List.nil_append]
                gi_wp2
                obtain ⟨g0, g1, g2, g3, g4, g5, g6, g7, g8, g9, g10, g11, g12, g13, g14, g15, g16, kw1, kw2, kw3, kc7, kc15, kc16⟩ := HH.out
                exact ⟨_, _, _, _, _, _, _, _, _, _, _, _, _, _, _, _, _, rfl, (fun h => g0 (by simpa using h)), (fun h => g1 (by simpa using h)), (fun h => g2 (by simpa using h)), (fun h => g3 (by simpa using h)), (fun h => g4 (by simpa using h)), (fun h => g5 (by simpa using h)), (fun h => g6 (by simpa using h)), (fun h => g7 (by simpa using h)), (fun h => g8 (by simpa using h)), (fun h => g9 (by simpa using h)), (fun h => g10 (by simpa using h)), (fun _ => rfl), (fun h => g12 (by simpa using h)), (fun h => g13 (by simpa using h)), (fun h => g14 (by simpa using h)), (fun h => g15 (by simpa using h)), (fun h => g16 (by simpa using h)), (fun h => kw1 (by simpa using h)), (fun h h2 => kw2 (by simpa using h) (by simpa using h2)), (fun h => kw3 (by simpa using h)), (fun h => ⟨by have := (kc7 (by simpa using h)).1; simpa using this, by have := (kc7 (by simpa using h)).2.1; simpa using this, by have := (kc7 (by simpa using h)).2.2.1; simpa using this, by have := (kc7 (by simpa using h)).2.2.2; simpa using this⟩), (fun h => ⟨by have := (kc15 (by simpa using h)).1; simpa using this, by have := (kc15 (by simpa using h)).2.1; simpa using this, by have := (kc15 (by simpa using h)).2.2.1; simpa using this, by have := (kc15 (by simpa using h)).2.2.2.1; simpa using this, by have := (kc15 (by simpa using h)).2.2.2.2; simpa using this⟩), (fun h => (by have := (kc16 (by simpa using h)); simpa using this))⟩
              · have ho : _ = o9 := Option.some.inj ho
                subst ho
                have d11 : G 11 = true := hd ⟨11, .data⟩ (by simp) rfl
                obtain rfl := g11 d11
                have h15 : G 15 = false := by cases h : G 15 with | false => rfl | true => rw [(kc15 h).2.2.1] at hG; cases hG
                obtain ⟨q1, q2, q3, q4, q5⟩ := hcells h15
                have HH := hid (show _ ∧ _ ∧ _ ∧ _ ∧ _ ∧ _ ∧ _ ∧ _ ∧ _ ∧ _ ∧ _ ∧ _ ∧ _ ∧ _ ∧ _ ∧ _ ∧ _ ∧ _ ∧ _ ∧ _ ∧ _ ∧ _ ∧ _ from ⟨g0, g1, g2, g3, g4, g5, g6, g7, g8, g9, g10, g11, g12, g13, g14, g15, g16, kw1, kw2, kw3, kc7, kc15, kc16⟩)
                clear g0 g1 g2 g3 g4 g5 g6 g7 g8 g9 g10 g11 g12 g13 g14 g15 g16 kw1 kw2 kw3 kc7 kc15 kc16 hcells hd
                refine wpOpIn_of rfl rfl ?_
                simp only [List.cons_append, List.nil_append]
                gi_wp2
                obtain ⟨g0, g1, g2, g3, g4, g5, g6, g7, g8, g9, g10, g11, g12, g13, g14, g15, g16, kw1, kw2, kw3, kc7, kc15, kc16⟩ := HH.out
                exact ⟨_, _, _, _, _, _, _, _, _, _, _, _, _, _, _, _, _, rfl, (fun h => g0 (by simpa using h)), (fun h => g1 (by simpa using h)), (fun h => g2 (by simpa using h)), (fun h => g3 (by simpa using h)), (fun h => g4 (by simpa using h)), (fun h => g5 (by simpa using h)), (fun h => g6 (by simpa using h)), (fun h => g7 (by simpa using h)), (fun h => g8 (by simpa using h)), (fun h => g9 (by simpa using h)), (fun h => g10 (by simpa using h)), (fun _ => rfl), (fun _ => rfl), (fun h => g13 (by simpa using h)), (fun h => g14 (by simpa using h)), (fun h => g15 (by simpa using h)), (fun h => g16 (by simpa using h)), (fun h => kw1 (by simpa using h)), (fun h h2 => kw2 (by simpa using h) (by simpa using h2)), (fun h => kw3 (by simpa using h)), (fun h => ⟨by have := (kc7 (by simpa using h)).1; simpa using this, by have := (kc7 (by simpa using h)).2.1; simpa using this, by have := (kc7 (by simpa using h)).2.2.1; simpa using this, by have := (kc7 (by simpa using h)).2.2.2; simpa using this⟩), (fun h => ⟨by have := (kc15 (by simpa using h)).1; simpa using this, by have := (kc15 (by simpa using h)).2.1; simpa using this, by simp, by have := (kc15 (by simpa using h)).2.2.2.1; simpa using this, by have := (kc15 (by simpa using h)).2.2.2.2; simpa using this⟩), (fun h => (by have := (kc16 (by simpa using h)); simpa using this))⟩
              · have ho : _ = o9 := Option.some.inj ho
                subst ho
                have HH := hid (show _ ∧ _ ∧ _ ∧ _ ∧ _ ∧ _ ∧ _ ∧ _ ∧ _ ∧ _ ∧ _ ∧ _ ∧ _ ∧ _ ∧ _ ∧ _ ∧ _ ∧ _ ∧ _ ∧ _ ∧ _ ∧ _ ∧ _ from ⟨g0, g1, g2, g3, g4, g5, g6, g7, g8, g9, g10, g11, g12, g13, g14, g15, g16, kw1, kw2, kw3, kc7, kc15, kc16⟩)
                clear g0 g1 g2 g3 g4 g5 g6 g7 g8 g9 g10 g11 g12 g13 g14 g15 g16 kw1 kw2 kw3 kc7 kc15 kc16 hcells hd
                refine wpOpIn_of rfl rfl ?_
                simp only [List.cons_append, List.nil_append]
                gi_wp2
                obtain ⟨g0, g1, g2, g3, g4, g5, g6, g7, g8, g9, g10, g11, g12, g13, g14, g15, g16, kw1, kw2, kw3, kc7, kc15, kc16⟩ := HH.out
                exact ⟨_, _, _, _, _, _, _, _, _, _, _, _, _, _, _, _, _, rfl, (fun h => g0 (by simpa using h)), (fun h => g1 (by simpa using h)), (fun h => g2 (by simpa using h)), (fun h => g3 (by simpa using h)), (fun h => g4 (by simpa using h)), (fun h => g5 (by simpa using h)), (fun h => g6 (by simpa using h)), (fun h => g7 (by simpa using h)), (fun h => g8 (by simpa using h)), (fun h => g9 (by simpa using h)), (fun h => g10 (by simpa using h)), (fun h => g11 (by simpa using h)), (fun h => g12 (by simpa using h)), (fun _ => rfl), (fun h => g14 (by simpa using h)), (fun h => g15 (by simpa using h)), (fun h => g16 (by simpa using h)), (fun h => kw1 (by simpa using h)), (fun h h2 => kw2 (by simpa using h) (by simpa using h2)), (fun h => kw3 (by simpa using h)), (fun h => ⟨by have := (kc7 (by simpa using h)).1; simpa using this, by have := (kc7 (by simpa using h)).2.1; simpa using this, by have := (kc7 (by simpa using h)).2.2.1; simpa using this, by have := (kc7 (by simpa using h)).2.2.2; simpa using this⟩), (fun h => ⟨by have := (kc15 (by simpa using h)).1; simpa using this, by have := (kc15 (by simpa using h)).2.1; simpa using this, by have := (kc15 (by simpa using h)).2.2.1; simpa using this, by have := (kc15 (by simpa using h)).2.2.2.1; simpa using this, by have := (kc15 (by simpa using h)).2.2.2.2; simpa using this⟩), (fun h => (by have := (kc16 (by simpa using h)); simpa using this))⟩
              · have ho : _ = o9 := Option.some.inj ho
                subst ho
                have d13 : G 13 = true := hd ⟨13, .data⟩ (by simp) rfl
                obtain rfl := g13 d13
                have h15 : G 15 = false := by cases h : G 15 with | false => rfl | true => rw [(kc15 h).2.2.2.1] at hG; cases hG
                obtain ⟨q1, q2, q3, q4, q5⟩ := hcells h15
                have HH := hid (show _ ∧ _ ∧ _ ∧ _ ∧ _ ∧ _ ∧ _ ∧ _ ∧ _ ∧ _ ∧ _ ∧ _ ∧ _ ∧ _ ∧ _ ∧ _ ∧ _ ∧ _ ∧ _ ∧ _ ∧ _ ∧ _ ∧ _ from ⟨g0, g1, g2, g3, g4, g5, g6, g7, g8, g9, g10, g11, g12, g13, g14, g15, g16, kw1, kw2, kw3, kc7, kc15, kc16⟩)
                clear g0 g1 g2 g3 g4 g5 g6 g7 g8 g9 g10 g11 g12 g13 g14 g15 g16 kw1 kw2 kw3 kc7 kc15 kc16 hcells hd
                refine wpOpIn_of rfl rfl ?_
                simp only [List.cons_append, List.nil_append]
                gi_wp2
                obtain ⟨g0, g1, g2, g3, g4, g5, g6, g7, g8, g9, g10, g11, g12, g13, g14, g15, g16, kw1, kw2, kw3, kc7, kc15, kc16⟩ := HH.out
                exact ⟨_, _, _, _, _, _, _, _, _, _, _, _, _, _, _, _, _, rfl, (fun h => g0 (by simpa using h)), (fun h => g1 (by simpa using h)), (fun h => g2 (by simpa using h)), (fun h => g3 (by simpa using h)), (fun h => g4 (by simpa using h)), (fun h => g5 (by simpa using h)), (fun h => g6 (by simpa using h)), (fun h => g7 (by simpa using h)), (fun h => g8 (by simpa using h)), (fun h => g9 (by simpa using h)), (fun h => g10 (by simpa using h)), (fun h => g11 (by simpa using h)), (fun h => g12 (by simpa using h)), (fun _ => rfl), (fun _ => rfl), (fun h => g15 (by simpa using h)), (fun h => g16 (by simpa using h)), (fun h => kw1 (by simpa using h)), (fun h h2 => kw2 (by simpa using h) (by simpa using h2)), (fun h => kw3 (by simpa using h)), (fun h => ⟨by have := (kc7 (by simpa using h)).1; simpa using this, by have := (kc7 (by simpa using h)).2.1; simpa using this, by have := (kc7 (by simpa using h)).2.2.1; simpa using this, by have := (kc7 (by simpa using h)).2.2.2; simpa using this⟩), (fun h => ⟨by have := (kc15 (by simpa using h)).1; simpa using this, by have := (kc15 (by simpa using h)).2.1; simpa using this, by have := (kc15 (by simpa using h)).2.2.1; simpa using this, by simp, by have := (kc15 (by simpa using h)).2.2.2.2; simpa using this⟩), (fun h => (by have := (kc16 (by simpa using h)); simpa using this))⟩
              · have ho : _ = o9 := Option.some.inj ho
                subst ho
                have d8 : G 8 = true := hd ⟨8, .data⟩ (by simp) rfl
                have d10 : G 10 = true := hd ⟨10, .data⟩ (by simp) rfl
                have d12 : G 12 = true := hd ⟨12, .data⟩ (by simp) rfl
                have d14 : G 14 = true := hd ⟨14, .data⟩ (by simp) rfl
                obtain rfl := g8 d8
                obtain rfl := g10 d10
                obtain rfl := g12 d12
                obtain rfl := g14 d14
                have d7 : G 7 = true := hd ⟨7, .chain⟩ (by simp) rfl
                have h16 : G 16 = false := by cases h : G 16 with | false => rfl | true => rw [kc16 h] at hG; cases hG
                have hmid := kw2 d7 hG
                have HH := hid (show _ ∧ _ ∧ _ ∧ _ ∧ _ ∧ _ ∧ _ ∧ _ ∧ _ ∧ _ ∧ _ ∧ _ ∧ _ ∧ _ ∧ _ ∧ _ ∧ _ ∧ _ ∧ _ ∧ _ ∧ _ ∧ _ ∧ _ from ⟨g0, g1, g2, g3, g4, g5, g6, g7, g8, g9, g10, g11, g12, g13, g14, g15, g16, kw1, kw2, kw3, kc7, kc15, kc16⟩)
                clear g0 g1 g2 g3 g4 g5 g6 g7 g8 g9 g10 g11 g12 g13 g14 g15 g16 kw1 kw2 kw3 kc7 kc15 kc16 hcells hd
                refine wpOpIn_of rfl rfl ?_
                simp only [List.cons_append, List.nil_append]
                gi_wp2
                refine ⟨trivial, (CallsIn.inRound l (callsIn_wide.2 (C2.out _ hmid))).mono ?_⟩
                rintro e w10 ⟨rfl, hm10⟩
                have hm10 := hid hm10
                gi_wp2
                obtain ⟨g0, g1, g2, g3, g4, g5, g6, g7, g8, g9, g10, g11, g12, g13, g14, g15, g16, kw1, kw2, kw3, kc7, kc15, kc16⟩ := HH.out
                exact ⟨_, _, _, _, _, _, _, _, _, _, _, _, _, _, _, _, _, rfl, (fun h => g0 (by simpa using h)), (fun h => g1 (by simpa using h)), (fun h => g2 (by simpa using h)), (fun h => g3 (by simpa using h)), (fun h => g4 (by simpa using h)), (fun h => g5 (by simpa using h)), (fun h => g6 (by simpa using h)), (fun h => g7 (by simpa using h)), (fun _ => rfl), (fun h => g9 (by simpa using h)), (fun _ => rfl), (fun h => g11 (by simpa using h)), (fun _ => rfl), (fun h => g13 (by simpa using h)), (fun _ => rfl), (fun _ => rfl), (fun h => g16 (by simpa using h)), (fun h => by simp [d7] at h), (fun _ h => by simp at h), (fun _ => hm10.out), (fun h => ⟨by have := (kc7 (by simpa using h)).1; simpa using this, by have := (kc7 (by simpa using h)).2.1; simpa using this, by have := (kc7 (by simpa using h)).2.2.1; simpa using this, by have := (kc7 (by simpa using h)).2.2.2; simpa using this⟩), (fun h => ⟨by simp [d8], by simp [d10], by simp [d12], by simp [d14], by simp [d7]⟩), (fun h => (by simp))⟩
              · have ho : _ = o9 := Option.some.inj ho
                subst ho
                have d7 : G 7 = true := hd ⟨7, .data⟩ (by simp) rfl
                have d15 : G 15 = true := hd ⟨15, .data⟩ (by simp) rfl
                obtain rfl := g7 d7
                obtain rfl := g15 d15
                have HH := hid (show _ ∧ _ ∧ _ ∧ _ ∧ _ ∧ _ ∧ _ ∧ _ ∧ _ ∧ _ ∧ _ ∧ _ ∧ _ ∧ _ ∧ _ ∧ _ ∧ _ ∧ _ ∧ _ ∧ _ ∧ _ ∧ _ ∧ _ from ⟨g0, g1, g2, g3, g4, g5, g6, g7, g8, g9, g10, g11, g12, g13, g14, g15, g16, kw1, kw2, kw3, kc7, kc15, kc16⟩)
                clear g0 g1 g2 g3 g4 g5 g6 g7 g8 g9 g10 g11 g12 g13 g14 g15 g16 kw1 kw2 kw3 kc7 kc15 kc16 hcells hd
                refine wpOpIn_of rfl rfl ?_
                simp only [List.cons_append, List.nil_append]
                gi_wp2
                obtain ⟨g0, g1, g2, g3, g4, g5, g6, g7, g8, g9, g10, g11, g12, g13, g14, g15, g16, kw1, kw2, kw3, kc7, kc15, kc16⟩ := HH.out
                exact ⟨_, _, _, _, _, _, _, _, _, _, _, _, _, _, _, _, _, rfl, (fun h => g0 (by simpa using h)), (fun h => g1 (by simpa using h)), (fun h => g2 (by simpa using h)), (fun h => g3 (by simpa using h)), (fun h => g4 (by simpa using h)), (fun h => g5 (by simpa using h)), (fun h => g6 (by simpa using h)), (fun _ => rfl), (fun h => g8 (by simpa using h)), (fun h => g9 (by simpa using h)), (fun h => g10 (by simpa using h)), (fun h => g11 (by simpa using h)), (fun h => g12 (by simpa using h)), (fun h => g13 (by simpa using h)), (fun h => g14 (by simpa using h)), (fun _ => rfl), (fun _ => rfl), (fun h => kw1 (by simpa using h)), (fun h h2 => kw2 (by simpa using h) (by simpa using h2)), (fun h => kw3 (by simpa using h)), (fun h => ⟨by have := (kc7 (by simpa using h)).1; simpa using this, by have := (kc7 (by simpa using h)).2.1; simpa using this, by have := (kc7 (by simpa using h)).2.2.1; simpa using this, by have := (kc7 (by simpa using h)).2.2.2; simpa using this⟩), (fun h => ⟨by have := (kc15 (by simpa using h)).1; simpa using this, by have := (kc15 (by simpa using h)).2.1; simpa using this, by have := (kc15 (by simpa using h)).2.2.1; simpa using this, by have := (kc15 (by simpa using h)).2.2.2.1; simpa using this, by have := (kc15 (by simpa using h)).2.2.2.2; simpa using this⟩), (fun h => (by simp [d15]))⟩
          · have dkz : decide ((k : Int) < (zl : Int)) = false := by simp; omega
            have dkn : ¬ k < zl := by omega
            gi_wp2
            have hg9 := grownBy_setCell' W9 (w4.heap.size + 1) (.int .i64 (k1 : Int))
            refine ⟨KeepsFrom.trans ⟨hb9.size, fun i o _ hi _ => (hb9.block i (Array.getElem?_eq_some_iff.1 hi).1).trans hi⟩ (KeepsFrom.of_grownBy hg9 (fun j e => by cases e; omega)), ⟨Nat.le_trans hb9.size hg9.size, fun T By l' hT => (hT.below hb9).keep (pbOf_PB Q1) (KeepT.turn hg9 (fun r e => ?_))⟩, S', ?_⟩
            · cases e
              refine ⟨?_, fun cs t fr ht => ?_⟩
              · omega
              · rw [HI9.out] at ht
                cases ht
                decide
            · have e1 : (k1 : Int) = ((pre ++ [x]).length : Int) := by rw [hk1.out, hk.out]; simp
              rw [e1]
              exact HP9.out.drop.setBox _
        case hstep =>
          intro G i9 o9 ac w9 ho hG hd hI
          have hi9 : i9 < 15 := (Array.getElem?_eq_some_iff.1 ho).1
          obtain ⟨t0, t1, t2, t3, t4, t5, t6, t7, t8, t9, t10, t11, t12, t13, t14, rfl, g0, g1, g2, g3, g4, g5, g6, g7, g8, g9, g10, g11, g12, g13, g14, kw1, kw2, kw3, kc12, kc11, kc10, kc6, kc5, kc4, kc3, kc2, kc14, kc13⟩ := hI
          have hcells : G 12 = false → w9.cell? ⟨w4.heap.size + 1, 0, none⟩ = some (.int .i64 (k : Int)) ∧ w9.cell? ⟨w4.heap.size, 0, none⟩ = some (.slice (some ⟨gw, 0, none⟩) zl4 c4) ∧ w9.cell? ⟨Bx, 0, none⟩ = some (.int .i64 (x.num : Int)) ∧ w9.cell? ⟨Bx, 1, none⟩ = some (.int .i64 (x.at_ : Int)) ∧ w9.cell? ⟨Bx, 2, none⟩ = some (.slice x.ao x.len x.cap) := fun h12 => by
            cases h6 : G 6 with
            | false => rw [kw1 h6]; exact ⟨cI, cW, x0, x1, x2⟩
            | true => rw [kw2 h6 h12]; exact ⟨cell_under (ba W.drew _) (lt_of_cell cI) cI, cell_under (ba W.drew _) (lt_of_cell cW) cW, cell_under (ba W.drew _) (lt_of_cell x0) x0, cell_under (ba W.drew _) (lt_of_cell x1) x1, cell_under (ba W.drew _) (lt_of_cell x2) x2⟩
          have hcs : i9 = 0 ∨ i9 = 1 ∨ i9 = 2 ∨ i9 = 3 ∨ i9 = 4 ∨ i9 = 5 ∨ i9 = 6 ∨ i9 = 7 ∨ i9 = 8 ∨ i9 = 9 ∨ i9 = 10 ∨ i9 = 11 ∨ i9 = 12 ∨ i9 = 13 ∨ i9 = 14 := by omega
          rcases hcs with rfl | rfl | rfl | rfl | rfl | rfl | rfl | rfl | rfl | rfl | rfl | rfl | rfl | rfl | rfl
          · have ho : _ = o9 := Option.some.inj ho
            subst ho
            have h12 : G 12 = false := by cases h : G 12 with | false => rfl | true => rw [(kc3 (kc4 (kc5 (kc6 (kc12 h).1)))).1] at hG; cases hG
            obtain ⟨q1, q2, q3, q4, q5⟩ := hcells h12
            have HH := hid (show _ ∧ _ ∧ _ ∧ _ ∧ _ ∧ _ ∧ _ ∧ _ ∧ _ ∧ _ ∧ _ ∧ _ ∧ _ ∧ _ ∧ _ ∧ _ ∧ _ ∧ _ ∧ _ ∧ _ ∧ _ ∧ _ ∧ _ ∧ _ ∧ _ ∧ _ ∧ _ ∧ _ from ⟨g0, g1, g2, g3, g4, g5, g6, g7, g8, g9, g10, g11, g12, g13, g14, kw1, kw2, kw3, kc12, kc11, kc10, kc6, kc5, kc4, kc3, kc2, kc14, kc13⟩)
            clear g0 g1 g2 g3 g4 g5 g6 g7 g8 g9 g10 g11 g12 g13 g14 kw1 kw2 kw3 kc12 kc11 kc10 kc6 kc5 kc4 kc3 kc2 kc14 kc13 hcells hd
            refine wpOpIn_ofG rfl ?_
            simp only [List.cons_append, List.nil_append]
            gi_wp2
            obtain ⟨g0, g1, g2, g3, g4, g5, g6, g7, g8, g9, g10, g11, g12, g13, g14, kw1, kw2, kw3, kc12, kc11, kc10, kc6, kc5, kc4, kc3, kc2, kc14, kc13⟩ := HH.out
            exact ⟨_, _, _, _, _, _, _, _, _, _, _, _, _, _, _, rfl, (fun _ => rfl), (fun h => g1 (by simpa using h)), (fun h => g2 (by simpa using h)), (fun h => g3 (by simpa using h)), (fun h => g4 (by simpa using h)), (fun h => g5 (by simpa using h)), (fun h => g6 (by simpa using h)), (fun h => g7 (by simpa using h)), (fun h => g8 (by simpa using h)), (fun h => g9 (by simpa using h)), (fun h => g10 (by simpa using h)), (fun h => g11 (by simpa using h)), (fun h => g12 (by simpa using h)), (fun h => g13 (by simpa using h)), (fun h => g14 (by simpa using h)), (fun h => kw1 (by simpa using h)), (fun h h2 => kw2 (by simpa using h) (by simpa using h2)), (fun h => kw3 (by simpa using h)), (fun h => ⟨by have := (kc12 (by simpa using h)).1; simpa using this, by have := (kc12 (by simpa using h)).2; simpa using this⟩), (fun h => ⟨by have := (kc11 (by simpa using h)).1; simpa using this, by have := (kc11 (by simpa using h)).2.1; simpa using this, by have := (kc11 (by simpa using h)).2.2; simpa using this⟩), (fun h => (by have := (kc10 (by simpa using h)); simpa using this)), (fun h => (by have := (kc6 (by simpa using h)); simpa using this)), (fun h => (by have := (kc5 (by simpa using h)); simpa using this)), (fun h => (by have := (kc4 (by simpa using h)); simpa using this)), (fun h => ⟨by simp, by have := (kc3 (by simpa using h)).2; simpa using this⟩), (fun h => (by have := (kc2 (by simpa using h)); simpa using this)), (fun h => (by have := (kc14 (by simpa using h)); simpa using this)), (fun h => (by have := (kc13 (by simpa using h)); simpa using this))⟩
          · have ho : _ = o9 := Option.some.inj ho
            subst ho
            have h12 : G 12 = false := by cases h : G 12 with | false => rfl | true => rw [kc2 (kc3 (kc4 (kc5 (kc6 (kc12 h).1)))).2] at hG; cases hG
            obtain ⟨q1, q2, q3, q4, q5⟩ := hcells h12
            have HH := hid (show _ ∧ _ ∧ _ ∧ _ ∧ _ ∧ _ ∧ _ ∧ _ ∧ _ ∧ _ ∧ _ ∧ _ ∧ _ ∧ _ ∧ _ ∧ _ ∧ _ ∧ _ ∧ _ ∧ _ ∧ _ ∧ _ ∧ _ ∧ _ ∧ _ ∧ _ ∧ _ ∧ _ from ⟨g0, g1, g2, g3, g4, g5, g6, g7, g8, g9, g10, g11, g12, g13, g14, kw1, kw2, kw3, kc12, kc11, kc10, kc6, kc5, kc4, kc3, kc2, kc14, kc13⟩)
            clear g0 g1 g2 g3 g4 g5 g6 g7 g8 g9 g10 g11 g12 g13 g14 kw1 kw2 kw3 kc12 kc11 kc10 kc6 kc5 kc4 kc3 kc2 kc14 kc13 hcells hd
            refine wpOpIn_ofG rfl ?_
            simp only [List.cons_append, List.nil_append]
            gi_wp2
            obtain ⟨g0, g1, g2, g3, g4, g5, g6, g7, g8, g9, g10, g11, g12, g13, g14, kw1, kw2, kw3, kc12, kc11, kc10, kc6, kc5, kc4, kc3, kc2, kc14, kc13⟩ := HH.out
            exact ⟨_, _, _, _, _, _, _, _, _, _, _, _, _, _, _, rfl, (fun h => g0 (by simpa using h)), (fun _ => rfl), (fun h => g2 (by simpa using h)), (fun h => g3 (by simpa using h)), (fun h => g4 (by simpa using h)), (fun h => g5 (by simpa using h)), (fun h => g6 (by simpa using h)), (fun h => g7 (by simpa using h)), (fun h => g8 (by simpa using h)), (fun h => g9 (by simpa using h)), (fun h => g10 (by simpa using h)), (fun h => g11 (by simpa using h)), (fun h => g12 (by simpa using h)), (fun h => g13 (by simpa using h)), (fun h => g14 (by simpa using h)), (fun h => kw1 (by simpa using h)), (fun h h2 => kw2 (by simpa using h) (by simpa using h2)), (fun h => kw3 (by simpa using h)), (fun h => ⟨by have := (kc12 (by simpa using h)).1; simpa using this, by have := (kc12 (by simpa using h)).2; simpa using this⟩), (fun h => ⟨by have := (kc11 (by simpa using h)).1; simpa using this, by have := (kc11 (by simpa using h)).2.1; simpa using this, by have := (kc11 (by simpa using h)).2.2; simpa using this⟩), (fun h => (by have := (kc10 (by simpa using h)); simpa using this)), (fun h => (by have := (kc6 (by simpa using h)); simpa using this)), (fun h => (by have := (kc5 (by simpa using h)); simpa using this)), (fun h => (by have := (kc4 (by simpa using h)); simpa using this)), (fun h => ⟨by have := (kc3 (by simpa using h)).1; simpa using this, by have := (kc3 (by simpa using h)).2; simpa using this⟩), (fun h => (by simp)), (fun h => (by have := (kc14 (by simpa using h)); simpa using this)), (fun h => (by have := (kc13 (by simpa using h)); simpa using this))⟩
          · have ho : _ = o9 := Option.some.inj ho
            subst ho
            have d1 : G 1 = true := hd ⟨1, .data⟩ (by simp) rfl
            obtain rfl := g1 d1
            have HH := hid (show _ ∧ _ ∧ _ ∧ _ ∧ _ ∧ _ ∧ _ ∧ _ ∧ _ ∧ _ ∧ _ ∧ _ ∧ _ ∧ _ ∧ _ ∧ _ ∧ _ ∧ _ ∧ _ ∧ _ ∧ _ ∧ _ ∧ _ ∧ _ ∧ _ ∧ _ ∧ _ ∧ _ from ⟨g0, g1, g2, g3, g4, g5, g6, g7, g8, g9, g10, g11, g12, g13, g14, kw1, kw2, kw3, kc12, kc11, kc10, kc6, kc5, kc4, kc3, kc2, kc14, kc13⟩)
            clear g0 g1 g2 g3 g4 g5 g6 g7 g8 g9 g10 g11 g12 g13 g14 kw1 kw2 kw3 kc12 kc11 kc10 kc6 kc5 kc4 kc3 kc2 kc14 kc13 hcells hd
            refine wpOpIn_ofG rfl ?_
            simp only [List.cons_append, List.nil_append]
            gi_wp2
            obtain ⟨g0, g1, g2, g3, g4, g5, g6, g7, g8, g9, g10, g11, g12, g13, g14, kw1, kw2, kw3, kc12, kc11, kc10, kc6, kc5, kc4, kc3, kc2, kc14, kc13⟩ := HH.out
            exact ⟨_, _, _, _, _, _, _, _, _, _, _, _, _, _, _, rfl, (fun h => g0 (by simpa using h)), (fun _ => rfl), (fun _ => rfl), (fun h => g3 (by simpa using h)), (fun h => g4 (by simpa using h)), (fun h => g5 (by simpa using h)), (fun h => g6 (by simpa using h)), (fun h => g7 (by simpa using h)), (fun h => g8 (by simpa using h)), (fun h => g9 (by simpa using h)), (fun h => g10 (by simpa using h)), (fun h => g11 (by simpa using h)), (fun h => g12 (by simpa using h)), (fun h => g13 (by simpa using h)), (fun h => g14 (by simpa using h)), (fun h => kw1 (by simpa using h)), (fun h h2 => kw2 (by simpa using h) (by simpa using h2)), (fun h => kw3 (by simpa using h)), (fun h => ⟨by have := (kc12 (by simpa using h)).1; simpa using this, by have := (kc12 (by simpa using h)).2; simpa using this⟩), (fun h => ⟨by have := (kc11 (by simpa using h)).1; simpa using this, by have := (kc11 (by simpa using h)).2.1; simpa using this, by have := (kc11 (by simpa using h)).2.2; simpa using this⟩), (fun h => (by have := (kc10 (by simpa using h)); simpa using this)), (fun h => (by have := (kc6 (by simpa using h)); simpa using this)), (fun h => (by have := (kc5 (by simpa using h)); simpa using this)), (fun h => (by have := (kc4 (by simpa using h)); simpa using this)), (fun h => ⟨by have := (kc3 (by simpa using h)).1; simpa using this, by simp⟩), (fun h => (by simp [d1])), (fun h => (by have := (kc14 (by simpa using h)); simpa using this)), (fun h => (by have := (kc13 (by simpa using h)); simpa using this))⟩
          · have ho : _ = o9 := Option.some.inj ho
            subst ho
            have d0 : G 0 = true := hd ⟨0, .data⟩ (by simp) rfl
            have d2 : G 2 = true := hd ⟨2, .data⟩ (by simp) rfl
            obtain rfl := g0 d0
            obtain rfl := g2 d2
            have HH := hid (show _ ∧ _ ∧ _ ∧ _ ∧ _ ∧ _ ∧ _ ∧ _ ∧ _ ∧ _ ∧ _ ∧ _ ∧ _ ∧ _ ∧ _ ∧ _ ∧ _ ∧ _ ∧ _ ∧ _ ∧ _ ∧ _ ∧ _ ∧ _ ∧ _ ∧ _ ∧ _ ∧ _ from ⟨g0, g1, g2, g3, g4, g5, g6, g7, g8, g9, g10, g11, g12, g13, g14, kw1, kw2, kw3, kc12, kc11, kc10, kc6, kc5, kc4, kc3, kc2, kc14, kc13⟩)
            clear g0 g1 g2 g3 g4 g5 g6 g7 g8 g9 g10 g11 g12 g13 g14 kw1 kw2 kw3 kc12 kc11 kc10 kc6 kc5 kc4 kc3 kc2 kc14 kc13 hcells hd
            refine wpOpIn_ofG rfl ?_
            simp only [List.cons_append, List.nil_append]
            gi_wp2
            obtain ⟨g0, g1, g2, g3, g4, g5, g6, g7, g8, g9, g10, g11, g12, g13, g14, kw1, kw2, kw3, kc12, kc11, kc10, kc6, kc5, kc4, kc3, kc2, kc14, kc13⟩ := HH.out
            exact ⟨_, _, _, _, _, _, _, _, _, _, _, _, _, _, _, rfl, (fun _ => rfl), (fun h => g1 (by simpa using h)), (fun _ => rfl), (fun _ => rfl), (fun h => g4 (by simpa using h)), (fun h => g5 (by simpa using h)), (fun h => g6 (by simpa using h)), (fun h => g7 (by simpa using h)), (fun h => g8 (by simpa using h)), (fun h => g9 (by simpa using h)), (fun h => g10 (by simpa using h)), (fun h => g11 (by simpa using h)), (fun h => g12 (by simpa using h)), (fun h => g13 (by simpa using h)), (fun h => g14 (by simpa using h)), (fun h => kw1 (by simpa using h)), (fun h h2 => kw2 (by simpa using h) (by simpa using h2)), (fun h => kw3 (by simpa using h)), (fun h => ⟨by have := (kc12 (by simpa using h)).1; simpa using this, by have := (kc12 (by simpa using h)).2; simpa using this⟩), (fun h => ⟨by have := (kc11 (by simpa using h)).1; simpa using this, by have := (kc11 (by simpa using h)).2.1; simpa using this, by have := (kc11 (by simpa using h)).2.2; simpa using this⟩), (fun h => (by have := (kc10 (by simpa using h)); simpa using this)), (fun h => (by have := (kc6 (by simpa using h)); simpa using this)), (fun h => (by have := (kc5 (by simpa using h)); simpa using this)), (fun h => (by simp)), (fun h => ⟨by simp [d0], by simp [d2]⟩), (fun h => (by have := (kc2 (by simpa using h)); simpa using this)), (fun h => (by have := (kc14 (by simpa using h)); simpa using this)), (fun h => (by have := (kc13 (by simpa using h)); simpa using this))⟩
          · have ho : _ = o9 := Option.some.inj ho
            subst ho
            have d3 : G 3 = true := hd ⟨3, .data⟩ (by simp) rfl
            obtain rfl := g3 d3
            have HH := hid (show _ ∧ _ ∧ _ ∧ _ ∧ _ ∧ _ ∧ _ ∧ _ ∧ _ ∧ _ ∧ _ ∧ _ ∧ _ ∧ _ ∧ _ ∧ _ ∧ _ ∧ _ ∧ _ ∧ _ ∧ _ ∧ _ ∧ _ ∧ _ ∧ _ ∧ _ ∧ _ ∧ _ from ⟨g0, g1, g2, g3, g4, g5, g6, g7, g8, g9, g10, g11, g12, g13, g14, kw1, kw2, kw3, kc12, kc11, kc10, kc6, kc5, kc4, kc3, kc2, kc14, kc13⟩)
            clear g0 g1 g2 g3 g4 g5 g6 g7 g8 g9 g10 g11 g12 g13 g14 kw1 kw2 kw3 kc12 kc11 kc10 kc6 kc5 kc4 kc3 kc2 kc14 kc13 hcells hd
            refine wpOpIn_ofG rfl ?_
            simp only [List.cons_append, List.nil_append]
            gi_wp2
            obtain ⟨g0, g1, g2, g3, g4, g5, g6, g7, g8, g9, g10, g11, g12, g13, g14, kw1, kw2, kw3, kc12, kc11, kc10, kc6, kc5, kc4, kc3, kc2, kc14, kc13⟩ := HH.out
            exact ⟨_, _, _, _, _, _, _, _, _, _, _, _, _, _, _, rfl, (fun h => g0 (by simpa using h)), (fun h => g1 (by simpa using h)), (fun h => g2 (by simpa using h)), (fun _ => rfl), (fun _ => rfl), (fun h => g5 (by simpa using h)), (fun h => g6 (by simpa using h)), (fun h => g7 (by simpa using h)), (fun h => g8 (by simpa using h)), (fun h => g9 (by simpa using h)), (fun h => g10 (by simpa using h)), (fun h => g11 (by simpa using h)), (fun h => g12 (by simpa using h)), (fun h => g13 (by simpa using h)), (fun h => g14 (by simpa using h)), (fun h => kw1 (by simpa using h)), (fun h h2 => kw2 (by simpa using h) (by simpa using h2)), (fun h => kw3 (by simpa using h)), (fun h => ⟨by have := (kc12 (by simpa using h)).1; simpa using this, by have := (kc12 (by simpa using h)).2; simpa using this⟩), (fun h => ⟨by have := (kc11 (by simpa using h)).1; simpa using this, by have := (kc11 (by simpa using h)).2.1; simpa using this, by have := (kc11 (by simpa using h)).2.2; simpa using this⟩), (fun h => (by have := (kc10 (by simpa using h)); simpa using this)), (fun h => (by have := (kc6 (by simpa using h)); simpa using this)), (fun h => (by simp)), (fun h => (by simp [d3])), (fun h => ⟨by have := (kc3 (by simpa using h)).1; simpa using this, by have := (kc3 (by simpa using h)).2; simpa using this⟩), (fun h => (by have := (kc2 (by simpa using h)); simpa using this)), (fun h => (by have := (kc14 (by simpa using h)); simpa using this)), (fun h => (by have := (kc13 (by simpa using h)); simpa using this))⟩
          · have ho : _ = o9 := Option.some.inj ho
            subst ho
            have d4 : G 4 = true := hd ⟨4, .guard⟩ (by simp) rfl
            obtain rfl := g4 d4
            have h12 : G 12 = false := by cases h : G 12 with | false => rfl | true => rw [kc6 (kc12 h).1] at hG; cases hG
            obtain ⟨q1, q2, q3, q4, q5⟩ := hcells h12
            have HH := hid (show _ ∧ _ ∧ _ ∧ _ ∧ _ ∧ _ ∧ _ ∧ _ ∧ _ ∧ _ ∧ _ ∧ _ ∧ _ ∧ _ ∧ _ ∧ _ ∧ _ ∧ _ ∧ _ ∧ _ ∧ _ ∧ _ ∧ _ ∧ _ ∧ _ ∧ _ ∧ _ ∧ _ from ⟨g0, g1, g2, g3, g4, g5, g6, g7, g8, g9, g10, g11, g12, g13, g14, kw1, kw2, kw3, kc12, kc11, kc10, kc6, kc5, kc4, kc3, kc2, kc14, kc13⟩)
            clear g0 g1 g2 g3 g4 g5 g6 g7 g8 g9 g10 g11 g12 g13 g14 kw1 kw2 kw3 kc12 kc11 kc10 kc6 kc5 kc4 kc3 kc2 kc14 kc13 hcells hd
            refine wpOpIn_ofG rfl ?_
            simp only [List.cons_append, List.nil_append]
            gi_wp2
            obtain ⟨g0, g1, g2, g3, g4, g5, g6, g7, g8, g9, g10, g11, g12, g13, g14, kw1, kw2, kw3, kc12, kc11, kc10, kc6, kc5, kc4, kc3, kc2, kc14, kc13⟩ := HH.out
            exact ⟨_, _, _, _, _, _, _, _, _, _, _, _, _, _, _, rfl, (fun h => g0 (by simpa using h)), (fun h => g1 (by simpa using h)), (fun h => g2 (by simpa using h)), (fun h => g3 (by simpa using h)), (fun _ => rfl), (fun _ => rfl), (fun h => g6 (by simpa using h)), (fun h => g7 (by simpa using h)), (fun h => g8 (by simpa using h)), (fun h => g9 (by simpa using h)), (fun h => g10 (by simpa using h)), (fun h => g11 (by simpa using h)), (fun h => g12 (by simpa using h)), (fun h => g13 (by simpa using h)), (fun h => g14 (by simpa using h)), (fun h => kw1 (by simpa using h)), (fun h h2 => kw2 (by simpa using h) (by simpa using h2)), (fun h => kw3 (by simpa using h)), (fun h => ⟨by have := (kc12 (by simpa using h)).1; simpa using this, by have := (kc12 (by simpa using h)).2; simpa using this⟩), (fun h => ⟨by have := (kc11 (by simpa using h)).1; simpa using this, by have := (kc11 (by simpa using h)).2.1; simpa using this, by have := (kc11 (by simpa using h)).2.2; simpa using this⟩), (fun h => (by have := (kc10 (by simpa using h)); simpa using this)), (fun h => (by simp)), (fun h => (by simp [d4])), (fun h => (by have := (kc4 (by simpa using h)); simpa using this)), (fun h => ⟨by have := (kc3 (by simpa using h)).1; simpa using this, by have := (kc3 (by simpa using h)).2; simpa using this⟩), (fun h => (by have := (kc2 (by simpa using h)); simpa using this)), (fun h => (by have := (kc14 (by simpa using h)); simpa using this)), (fun h => (by have := (kc13 (by simpa using h)); simpa using this))⟩
          · have ho : _ = o9 := Option.some.inj ho
            subst ho
            have d5 : G 5 = true := hd ⟨5, .data⟩ (by simp) rfl
            have d4 : G 4 = true := hd ⟨4, .guard⟩ (by simp) rfl
            obtain rfl := g5 d5
            obtain rfl := g4 d4
            have h12 : G 12 = false := by cases h : G 12 with | false => rfl | true => rw [(kc12 h).1] at hG; cases hG
            obtain rfl := kw1 hG
            have h13 : G 13 = false := by cases h : G 13 with | false => rfl | true => rw [kc13 h] at h12; cases h12
            have h14 : G 14 = false := by cases h : G 14 with | false => rfl | true => rw [kc14 h] at h12; cases h12
            have HH := hid (show _ ∧ _ ∧ _ ∧ _ ∧ _ ∧ _ ∧ _ ∧ _ ∧ _ ∧ _ ∧ _ ∧ _ ∧ _ ∧ _ ∧ _ ∧ _ ∧ _ ∧ _ ∧ _ ∧ _ ∧ _ ∧ _ ∧ _ ∧ _ ∧ _ ∧ _ ∧ _ ∧ _ from ⟨g0, g1, g2, g3, g4, g5, g6, g7, g8, g9, g10, g11, g12, g13, g14, kw1, kw2, kw3, kc12, kc11, kc10, kc6, kc5, kc4, kc3, kc2, kc14, kc13⟩)
            clear g0 g1 g2 g3 g4 g5 g6 g7 g8 g9 g10 g11 g12 g13 g14 kw1 kw2 kw3 kc12 kc11 kc10 kc6 kc5 kc4 kc3 kc2 kc14 kc13 hcells hd
            refine wpOpIn_ofG rfl ?_
            simp only [List.cons_append, List.nil_append]
            gi_wp2
            obtain ⟨g0, g1, g2, g3, g4, g5, g6, g7, g8, g9, g10, g11, g12, g13, g14, kw1, kw2, kw3, kc12, kc11, kc10, kc6, kc5, kc4, kc3, kc2, kc14, kc13⟩ := HH.out
            exact ⟨_, _, _, _, _, _, _, _, _, _, _, _, _, _, _, rfl, (fun h => g0 (by simpa using h)), (fun h => g1 (by simpa using h)), (fun h => g2 (by simpa using h)), (fun h => g3 (by simpa using h)), (fun _ => rfl), (fun _ => rfl), (fun _ => rfl), (fun h => g7 (by simpa using h)), (fun h => g8 (by simpa using h)), (fun h => g9 (by simpa using h)), (fun h => g10 (by simpa using h)), (fun h => g11 (by simpa using h)), (fun h => g12 (by simpa using h)), (fun h => g13 (by simpa using h)), (fun h => g14 (by simpa using h)), (fun h => by simp at h), (fun _ _ => rfl), (fun h => by simp [h12] at h), (fun h => ⟨by simp, by have := (kc12 (by simpa using h)).2; simpa using this⟩), (fun h => ⟨by have := (kc11 (by simpa using h)).1; simpa using this, by have := (kc11 (by simpa using h)).2.1; simpa using this, by have := (kc11 (by simpa using h)).2.2; simpa using this⟩), (fun h => (by have := (kc10 (by simpa using h)); simpa using this)), (fun h => (by simp [d5])), (fun h => (by have := (kc5 (by simpa using h)); simpa using this)), (fun h => (by have := (kc4 (by simpa using h)); simpa using this)), (fun h => ⟨by have := (kc3 (by simpa using h)).1; simpa using this, by have := (kc3 (by simpa using h)).2; simpa using this⟩), (fun h => (by have := (kc2 (by simpa using h)); simpa using this)), (fun h => (by have := (kc14 (by simpa using h)); simpa using this)), (fun h => (by have := (kc13 (by simpa using h)); simpa using this))⟩
          · have ho : _ = o9 := Option.some.inj ho
            subst ho
            have d4 : G 4 = true := hd ⟨4, .guard⟩ (by simp) rfl
            obtain rfl := g4 d4
            have h12 : G 12 = false := by cases h : G 12 with | false => rfl | true => rw [(kc11 (kc12 h).2).1] at hG; cases hG
            obtain ⟨q1, q2, q3, q4, q5⟩ := hcells h12
            have HH := hid (show _ ∧ _ ∧ _ ∧ _ ∧ _ ∧ _ ∧ _ ∧ _ ∧ _ ∧ _ ∧ _ ∧ _ ∧ _ ∧ _ ∧ _ ∧ _ ∧ _ ∧ _ ∧ _ ∧ _ ∧ _ ∧ _ ∧ _ ∧ _ ∧ _ ∧ _ ∧ _ ∧ _ from ⟨g0, g1, g2, g3, g4, g5, g6, g7, g8, g9, g10, g11, g12, g13, g14, kw1, kw2, kw3, kc12, kc11, kc10, kc6, kc5, kc4, kc3, kc2, kc14, kc13⟩)
            clear g0 g1 g2 g3 g4 g5 g6 g7 g8 g9 g10 g11 g12 g13 g14 kw1 kw2 kw3 kc12 kc11 kc10 kc6 kc5 kc4 kc3 kc2 kc14 kc13 hcells hd
            refine wpOpIn_ofG rfl ?_
            simp only [List.cons_append, List.nil_append]
            gi_wp2
            obtain ⟨g0, g1, g2, g3, g4, g5, g6, g7, g8, g9, g10, g11, g12, g13, g14, kw1, kw2, kw3, kc12, kc11, kc10, kc6, kc5, kc4, kc3, kc2, kc14, kc13⟩ := HH.out
            exact ⟨_, _, _, _, _, _, _, _, _, _, _, _, _, _, _, rfl, (fun h => g0 (by simpa using h)), (fun h => g1 (by simpa using h)), (fun h => g2 (by simpa using h)), (fun h => g3 (by simpa using h)), (fun _ => rfl), (fun h => g5 (by simpa using h)), (fun h => g6 (by simpa using h)), (fun _ => rfl), (fun h => g8 (by simpa using h)), (fun h => g9 (by simpa using h)), (fun h => g10 (by simpa using h)), (fun h => g11 (by simpa using h)), (fun h => g12 (by simpa using h)), (fun h => g13 (by simpa using h)), (fun h => g14 (by simpa using h)), (fun h => kw1 (by simpa using h)), (fun h h2 => kw2 (by simpa using h) (by simpa using h2)), (fun h => kw3 (by simpa using h)), (fun h => ⟨by have := (kc12 (by simpa using h)).1; simpa using this, by have := (kc12 (by simpa using h)).2; simpa using this⟩), (fun h => ⟨by simp, by have := (kc11 (by simpa using h)).2.1; simpa using this, by have := (kc11 (by simpa using h)).2.2; simpa using this⟩), (fun h => (by have := (kc10 (by simpa using h)); simpa using this)), (fun h => (by have := (kc6 (by simpa using h)); simpa using this)), (fun h => (by have := (kc5 (by simpa using h)); simpa using this)), (fun h => (by have := (kc4 (by simpa using h)); simpa using this)), (fun h => ⟨by have := (kc3 (by simpa using h)).1; simpa using this, by have := (kc3 (by simpa using h)).2; simpa using this⟩), (fun h => (by have := (kc2 (by simpa using h)); simpa using this)), (fun h => (by have := (kc14 (by simpa using h)); simpa using this)), (fun h => (by have := (kc13 (by simpa using h)); simpa using this))⟩
          · have ho : _ = o9 := Option.some.inj ho
            subst ho
            have d4 : G 4 = true := hd ⟨4, .guard⟩ (by simp) rfl
            obtain rfl := g4 d4
            have h12 : G 12 = false := by cases h : G 12 with | false => rfl | true => rw [(kc11 (kc12 h).2).2.1] at hG; cases hG
            obtain ⟨q1, q2, q3, q4, q5⟩ := hcells h12
            have HH := hid (show _ ∧ _ ∧ _ ∧ _ ∧ _ ∧ _ ∧ _ ∧ _ ∧ _ ∧ _ ∧ _ ∧ _ ∧ _ ∧ _ ∧ _ ∧ _ ∧ _ ∧ _ ∧ _ ∧ _ ∧ _ ∧ _ ∧ _ ∧ _ ∧ _ ∧ _ ∧ _ ∧ _ from ⟨g0, g1, g2, g3, g4, g5, g6, g7, g8, g9, g10, g11, g12, g13, g14, kw1, kw2, kw3, kc12, kc11, kc10, kc6, kc5, kc4, kc3, kc2, kc14, kc13⟩)
            clear g0 g1 g2 g3 g4 g5 g6 g7 g8 g9 g10 g11 g12 g13 g14 kw1 kw2 kw3 kc12 kc11 kc10 kc6 kc5 kc4 kc3 kc2 kc14 kc13 hcells hd
            refine wpOpIn_ofG rfl ?_
            simp only [List.cons_append, List.nil_append]
            gi_wp2
            obtain ⟨g0, g1, g2, g3, g4, g5, g6, g7, g8, g9, g10, g11, g12, g13, g14, kw1, kw2, kw3, kc12, kc11, kc10, kc6, kc5, kc4, kc3, kc2, kc14, kc13⟩ := HH.out
            exact ⟨_, _, _, _, _, _, _, _, _, _, _, _, _, _, _, rfl, (fun h => g0 (by simpa using h)), (fun h => g1 (by simpa using h)), (fun h => g2 (by simpa using h)), (fun h => g3 (by simpa using h)), (fun _ => rfl), (fun h => g5 (by simpa using h)), (fun h => g6 (by simpa using h)), (fun h => g7 (by simpa using h)), (fun _ => rfl), (fun h => g9 (by simpa using h)), (fun h => g10 (by simpa using h)), (fun h => g11 (by simpa using h)), (fun h => g12 (by simpa using h)), (fun h => g13 (by simpa using h)), (fun h => g14 (by simpa using h)), (fun h => kw1 (by simpa using h)), (fun h h2 => kw2 (by simpa using h) (by simpa using h2)), (fun h => kw3 (by simpa using h)), (fun h => ⟨by have := (kc12 (by simpa using h)).1; simpa using this, by have := (kc12 (by simpa using h)).2; simpa using this⟩), (fun h => ⟨by have := (kc11 (by simpa using h)).1; simpa using this, by simp, by have := (kc11 (by simpa using h)).2.2; simpa using this⟩), (fun h => (by have := (kc10 (by simpa using h)); simpa using this)), (fun h => (by have := (kc6 (by simpa using h)); simpa using this)), (fun h => (by have := (kc5 (by simpa using h)); simpa using this)), (fun h => (by have := (kc4 (by simpa using h)); simpa using this)), (fun h => ⟨by have := (kc3 (by simpa using h)).1; simpa using this, by have := (kc3 (by simpa using h)).2; simpa using this⟩), (fun h => (by have := (kc2 (by simpa using h)); simpa using this)), (fun h => (by have := (kc14 (by simpa using h)); simpa using this)), (fun h => (by have := (kc13 (by simpa using h)); simpa using this))⟩
          · have ho : _ = o9 := Option.some.inj ho
            subst ho
            have d4 : G 4 = true := hd ⟨4, .guard⟩ (by simp) rfl
            obtain rfl := g4 d4
            have h12 : G 12 = false := by cases h : G 12 with | false => rfl | true => rw [kc10 (kc11 (kc12 h).2).2.2] at hG; cases hG
            obtain ⟨q1, q2, q3, q4, q5⟩ := hcells h12
            have HH := hid (show _ ∧ _ ∧ _ ∧ _ ∧ _ ∧ _ ∧ _ ∧ _ ∧ _ ∧ _ ∧ _ ∧ _ ∧ _ ∧ _ ∧ _ ∧ _ ∧ _ ∧ _ ∧ _ ∧ _ ∧ _ ∧ _ ∧ _ ∧ _ ∧ _ ∧ _ ∧ _ ∧ _ from ⟨g0, g1, g2, g3, g4, g5, g6, g7, g8, g9, g10, g11, g12, g13, g14, kw1, kw2, kw3, kc12, kc11, kc10, kc6, kc5, kc4, kc3, kc2, kc14, kc13⟩)
            clear g0 g1 g2 g3 g4 g5 g6 g7 g8 g9 g10 g11 g12 g13 g14 kw1 kw2 kw3 kc12 kc11 kc10 kc6 kc5 kc4 kc3 kc2 kc14 kc13 hcells hd
            refine wpOpIn_ofG rfl ?_
            simp only [List.cons_append, List.nil_append]
            gi_wp2
            obtain ⟨g0, g1, g2, g3, g4, g5, g6, g7, g8, g9, g10, g11, g12, g13, g14, kw1, kw2, kw3, kc12, kc11, kc10, kc6, kc5, kc4, kc3, kc2, kc14, kc13⟩ := HH.out
            exact ⟨_, _, _, _, _, _, _, _, _, _, _, _, _, _, _, rfl, (fun h => g0 (by simpa using h)), (fun h => g1 (by simpa using h)), (fun h => g2 (by simpa using h)), (fun h => g3 (by simpa using h)), (fun _ => rfl), (fun h => g5 (by simpa using h)), (fun h => g6 (by simpa using h)), (fun h => g7 (by simpa using h)), (fun h => g8 (by simpa using h)), (fun _ => rfl), (fun h => g10 (by simpa using h)), (fun h => g11 (by simpa using h)), (fun h => g12 (by simpa using h)), (fun h => g13 (by simpa using h)), (fun h => g14 (by simpa using h)), (fun h => kw1 (by simpa using h)), (fun h h2 => kw2 (by simpa using h) (by simpa using h2)), (fun h => kw3 (by simpa using h)), (fun h => ⟨by have := (kc12 (by simpa using h)).1; simpa using this, by have := (kc12 (by simpa using h)).2; simpa using this⟩), (fun h => ⟨by have := (kc11 (by simpa using h)).1; simpa using this, by have := (kc11 (by simpa using h)).2.1; simpa using this, by have := (kc11 (by simpa using h)).2.2; simpa using this⟩), (fun h => (by simp)), (fun h => (by have := (kc6 (by simpa using h)); simpa using this)), (fun h => (by have := (kc5 (by simpa using h)); simpa using this)), (fun h => (by have := (kc4 (by simpa using h)); simpa using this)), (fun h => ⟨by have := (kc3 (by simpa using h)).1; simpa using this, by have := (kc3 (by simpa using h)).2; simpa using this⟩), (fun h => (by have := (kc2 (by simpa using h)); simpa using this)), (fun h => (by have := (kc14 (by simpa using h)); simpa using this)), (fun h => (by have := (kc13 (by simpa using h)); simpa using this))⟩
          · have ho : _ = o9 := Option.some.inj ho
            subst ho
            have d9 : G 9 = true := hd ⟨9, .data⟩ (by simp) rfl
            have d4 : G 4 = true := hd ⟨4, .guard⟩ (by simp) rfl
            obtain rfl := g9 d9
            obtain rfl := g4 d4
            have HH := hid (show _ ∧ _ ∧ _ ∧ _ ∧ _ ∧ _ ∧ _ ∧ _ ∧ _ ∧ _ ∧ _ ∧ _ ∧ _ ∧ _ ∧ _ ∧ _ ∧ _ ∧ _ ∧ _ ∧ _ ∧ _ ∧ _ ∧ _ ∧ _ ∧ _ ∧ _ ∧ _ ∧ _ from ⟨g0, g1, g2, g3, g4, g5, g6, g7, g8, g9, g10, g11, g12, g13, g14, kw1, kw2, kw3, kc12, kc11, kc10, kc6, kc5, kc4, kc3, kc2, kc14, kc13⟩)
            clear g0 g1 g2 g3 g4 g5 g6 g7 g8 g9 g10 g11 g12 g13 g14 kw1 kw2 kw3 kc12 kc11 kc10 kc6 kc5 kc4 kc3 kc2 kc14 kc13 hcells hd
            refine wpOpIn_ofG rfl ?_
            simp only [List.cons_append, List.nil_append]
            gi_wp2
            obtain ⟨g0, g1, g2, g3, g4, g5, g6, g7, g8, g9, g10, g11, g12, g13, g14, kw1, kw2, kw3, kc12, kc11, kc10, kc6, kc5, kc4, kc3, kc2, kc14, kc13⟩ := HH.out
            exact ⟨_, _, _, _, _, _, _, _, _, _, _, _, _, _, _, rfl, (fun h => g0 (by simpa using h)), (fun h => g1 (by simpa using h)), (fun h => g2 (by simpa using h)), (fun h => g3 (by simpa using h)), (fun _ => rfl), (fun h => g5 (by simpa using h)), (fun h => g6 (by simpa using h)), (fun h => g7 (by simpa using h)), (fun h => g8 (by simpa using h)), (fun _ => rfl), (fun _ => rfl), (fun h => g11 (by simpa using h)), (fun h => g12 (by simpa using h)), (fun h => g13 (by simpa using h)), (fun h => g14 (by simpa using h)), (fun h => kw1 (by simpa using h)), (fun h h2 => kw2 (by simpa using h) (by simpa using h2)), (fun h => kw3 (by simpa using h)), (fun h => ⟨by have := (kc12 (by simpa using h)).1; simpa using this, by have := (kc12 (by simpa using h)).2; simpa using this⟩), (fun h => ⟨by have := (kc11 (by simpa using h)).1; simpa using this, by have := (kc11 (by simpa using h)).2.1; simpa using this, by simp⟩), (fun h => (by simp [d9])), (fun h => (by have := (kc6 (by simpa using h)); simpa using this)), (fun h => (by have := (kc5 (by simpa using h)); simpa using this)), (fun h => (by have := (kc4 (by simpa using h)); simpa using this)), (fun h => ⟨by have := (kc3 (by simpa using h)).1; simpa using this, by have := (kc3 (by simpa using h)).2; simpa using this⟩), (fun h => (by have := (kc2 (by simpa using h)); simpa using this)), (fun h => (by have := (kc14 (by simpa using h)); simpa using this)), (fun h => (by have := (kc13 (by simpa using h)); simpa using this))⟩
          · have ho : _ = o9 := Option.some.inj ho
            subst ho
            have d7 : G 7 = true := hd ⟨7, .data⟩ (by simp) rfl
            have d8 : G 8 = true := hd ⟨8, .data⟩ (by simp) rfl
            have d10 : G 10 = true := hd ⟨10, .data⟩ (by simp) rfl
            have d4 : G 4 = true := hd ⟨4, .guard⟩ (by simp) rfl
            obtain rfl := g7 d7
            obtain rfl := g8 d8
            obtain rfl := g10 d10
            obtain rfl := g4 d4
            have HH := hid (show _ ∧ _ ∧ _ ∧ _ ∧ _ ∧ _ ∧ _ ∧ _ ∧ _ ∧ _ ∧ _ ∧ _ ∧ _ ∧ _ ∧ _ ∧ _ ∧ _ ∧ _ ∧ _ ∧ _ ∧ _ ∧ _ ∧ _ ∧ _ ∧ _ ∧ _ ∧ _ ∧ _ from ⟨g0, g1, g2, g3, g4, g5, g6, g7, g8, g9, g10, g11, g12, g13, g14, kw1, kw2, kw3, kc12, kc11, kc10, kc6, kc5, kc4, kc3, kc2, kc14, kc13⟩)
            clear g0 g1 g2 g3 g4 g5 g6 g7 g8 g9 g10 g11 g12 g13 g14 kw1 kw2 kw3 kc12 kc11 kc10 kc6 kc5 kc4 kc3 kc2 kc14 kc13 hcells hd
            refine wpOpIn_ofG rfl ?_
            simp only [List.cons_append, List.nil_append]
            gi_wp2
            obtain ⟨g0, g1, g2, g3, g4, g5, g6, g7, g8, g9, g10, g11, g12, g13, g14, kw1, kw2, kw3, kc12, kc11, kc10, kc6, kc5, kc4, kc3, kc2, kc14, kc13⟩ := HH.out
            exact ⟨_, _, _, _, _, _, _, _, _, _, _, _, _, _, _, rfl, (fun h => g0 (by simpa using h)), (fun h => g1 (by simpa using h)), (fun h => g2 (by simpa using h)), (fun h => g3 (by simpa using h)), (fun _ => rfl), (fun h => g5 (by simpa using h)), (fun h => g6 (by simpa using h)), (fun _ => rfl), (fun _ => rfl), (fun h => g9 (by simpa using h)), (fun _ => rfl), (fun _ => rfl), (fun h => g12 (by simpa using h)), (fun h => g13 (by simpa using h)), (fun h => g14 (by simpa using h)), (fun h => kw1 (by simpa using h)), (fun h h2 => kw2 (by simpa using h) (by simpa using h2)), (fun h => kw3 (by simpa using h)), (fun h => ⟨by have := (kc12 (by simpa using h)).1; simpa using this, by simp⟩), (fun h => ⟨by simp [d7], by simp [d8], by simp [d10]⟩), (fun h => (by have := (kc10 (by simpa using h)); simpa using this)), (fun h => (by have := (kc6 (by simpa using h)); simpa using this)), (fun h => (by have := (kc5 (by simpa using h)); simpa using this)), (fun h => (by have := (kc4 (by simpa using h)); simpa using this)), (fun h => ⟨by have := (kc3 (by simpa using h)).1; simpa using this, by have := (kc3 (by simpa using h)).2; simpa using this⟩), (fun h => (by have := (kc2 (by simpa using h)); simpa using this)), (fun h => (by have := (kc14 (by simpa using h)); simpa using this)), (fun h => (by have := (kc13 (by simpa using h)); simpa using this))⟩
          · have ho : _ = o9 := Option.some.inj ho
            subst ho
            have d6 : G 6 = true := hd ⟨6, .data⟩ (by simp) rfl
            have d11 : G 11 = true := hd ⟨11, .data⟩ (by simp) rfl
            have d4 : G 4 = true := hd ⟨4, .guard⟩ (by simp) rfl
            obtain rfl := g6 d6
            obtain rfl := g11 d11
            obtain rfl := g4 d4
            obtain rfl := kw2 d6 hG
            have h14 : G 14 = false := by cases h : G 14 with | false => rfl | true => rw [kc14 h] at hG; cases hG
            have h13 : G 13 = false := by cases h : G 13 with | false => rfl | true => rw [kc13 h] at hG; cases hG
            have HH := hid (show _ ∧ _ ∧ _ ∧ _ ∧ _ ∧ _ ∧ _ ∧ _ ∧ _ ∧ _ ∧ _ ∧ _ ∧ _ ∧ _ ∧ _ ∧ _ ∧ _ ∧ _ ∧ _ ∧ _ ∧ _ ∧ _ ∧ _ ∧ _ ∧ _ ∧ _ ∧ _ ∧ _ from ⟨g0, g1, g2, g3, g4, g5, g6, g7, g8, g9, g10, g11, g12, g13, g14, kw1, kw2, kw3, kc12, kc11, kc10, kc6, kc5, kc4, kc3, kc2, kc14, kc13⟩)
            clear g0 g1 g2 g3 g4 g5 g6 g7 g8 g9 g10 g11 g12 g13 g14 kw1 kw2 kw3 kc12 kc11 kc10 kc6 kc5 kc4 kc3 kc2 kc14 kc13 hcells hd
            refine wpOpIn_ofG rfl ?_
            simp only [List.cons_append, List.nil_append]
            gi_wp2
            refine ⟨trivial, (CallsIn.inRound l (callsIn_wide.2 SM.out)).mono ?_⟩
            rintro e w10 ⟨rfl, q10, hw10⟩
            subst hw10
            gi_wp2
            obtain ⟨g0, g1, g2, g3, g4, g5, g6, g7, g8, g9, g10, g11, g12, g13, g14, kw1, kw2, kw3, kc12, kc11, kc10, kc6, kc5, kc4, kc3, kc2, kc14, kc13⟩ := HH.out
            exact ⟨_, _, _, _, _, _, _, _, _, _, _, _, _, _, _, rfl, (fun h => g0 (by simpa using h)), (fun h => g1 (by simpa using h)), (fun h => g2 (by simpa using h)), (fun h => g3 (by simpa using h)), (fun _ => rfl), (fun h => g5 (by simpa using h)), (fun _ => rfl), (fun h => g7 (by simpa using h)), (fun h => g8 (by simpa using h)), (fun h => g9 (by simpa using h)), (fun h => g10 (by simpa using h)), (fun _ => rfl), (fun _ => rfl), (fun h => g13 (by simpa using h)), (fun h => g14 (by simpa using h)), (fun h => by simp [d6] at h), (fun _ h => by simp at h), (fun _ => ⟨q10, by rw [← World.drewN_drew]; rfl⟩), (fun h => ⟨by simp [d6], by simp [d11]⟩), (fun h => ⟨by have := (kc11 (by simpa using h)).1; simpa using this, by have := (kc11 (by simpa using h)).2.1; simpa using this, by have := (kc11 (by simpa using h)).2.2; simpa using this⟩), (fun h => (by have := (kc10 (by simpa using h)); simpa using this)), (fun h => (by have := (kc6 (by simpa using h)); simpa using this)), (fun h => (by have := (kc5 (by simpa using h)); simpa using this)), (fun h => (by have := (kc4 (by simpa using h)); simpa using this)), (fun h => ⟨by have := (kc3 (by simpa using h)).1; simpa using this, by have := (kc3 (by simpa using h)).2; simpa using this⟩), (fun h => (by have := (kc2 (by simpa using h)); simpa using this)), (fun h => (by simp)), (fun h => (by simp))⟩
          · have ho : _ = o9 := Option.some.inj ho
            subst ho
            have d12 : G 12 = true := hd ⟨12, .data⟩ (by simp) rfl
            have d4 : G 4 = true := hd ⟨4, .guard⟩ (by simp) rfl
            obtain rfl := g12 d12
            obtain rfl := g4 d4
            have HH := hid (show _ ∧ _ ∧ _ ∧ _ ∧ _ ∧ _ ∧ _ ∧ _ ∧ _ ∧ _ ∧ _ ∧ _ ∧ _ ∧ _ ∧ _ ∧ _ ∧ _ ∧ _ ∧ _ ∧ _ ∧ _ ∧ _ ∧ _ ∧ _ ∧ _ ∧ _ ∧ _ ∧ _ from ⟨g0, g1, g2, g3, g4, g5, g6, g7, g8, g9, g10, g11, g12, g13, g14, kw1, kw2, kw3, kc12, kc11, kc10, kc6, kc5, kc4, kc3, kc2, kc14, kc13⟩)
            clear g0 g1 g2 g3 g4 g5 g6 g7 g8 g9 g10 g11 g12 g13 g14 kw1 kw2 kw3 kc12 kc11 kc10 kc6 kc5 kc4 kc3 kc2 kc14 kc13 hcells hd
            refine wpOpIn_ofG rfl ?_
            simp only [List.cons_append, List.nil_append]
            gi_wp2
            obtain ⟨g0, g1, g2, g3, g4, g5, g6, g7, g8, g9, g10, g11, g12, g13, g14, kw1, kw2, kw3, kc12, kc11, kc10, kc6, kc5, kc4, kc3, kc2, kc14, kc13⟩ := HH.out
            exact ⟨_, _, _, _, _, _, _, _, _, _, _, _, _, _, _, rfl, (fun h => g0 (by simpa using h)), (fun h => g1 (by simpa using h)), (fun h => g2 (by simpa using h)), (fun h => g3 (by simpa using h)), (fun _ => rfl), (fun h => g5 (by simpa using h)), (fun h => g6 (by simpa using h)), (fun h => g7 (by simpa using h)), (fun h => g8 (by simpa using h)), (fun h => g9 (by simpa using h)), (fun h => g10 (by simpa using h)), (fun h => g11 (by simpa using h)), (fun _ => rfl), (fun _ => rfl), (fun h => g14 (by simpa using h)), (fun h => kw1 (by simpa using h)), (fun h h2 => kw2 (by simpa using h) (by simpa using h2)), (fun h => kw3 (by simpa using h)), (fun h => ⟨by have := (kc12 (by simpa using h)).1; simpa using this, by have := (kc12 (by simpa using h)).2; simpa using this⟩), (fun h => ⟨by have := (kc11 (by simpa using h)).1; simpa using this, by have := (kc11 (by simpa using h)).2.1; simpa using this, by have := (kc11 (by simpa using h)).2.2; simpa using this⟩), (fun h => (by have := (kc10 (by simpa using h)); simpa using this)), (fun h => (by have := (kc6 (by simpa using h)); simpa using this)), (fun h => (by have := (kc5 (by simpa using h)); simpa using this)), (fun h => (by have := (kc4 (by simpa using h)); simpa using this)), (fun h => ⟨by have := (kc3 (by simpa using h)).1; simpa using this, by have := (kc3 (by simpa using h)).2; simpa using this⟩), (fun h => (by have := (kc2 (by simpa using h)); simpa using this)), (fun h => (by have := (kc14 (by simpa using h)); simpa using this)), (fun h => (by simp [d12]))⟩
          · have ho : _ = o9 := Option.some.inj ho
            subst ho
            have d4 : G 4 = true := hd ⟨4, .data⟩ (by simp) rfl
            have d13 : G 13 = true := hd ⟨13, .data⟩ (by simp) rfl
            obtain rfl := g4 d4
            obtain rfl := g13 d13
            have HH := hid (show _ ∧ _ ∧ _ ∧ _ ∧ _ ∧ _ ∧ _ ∧ _ ∧ _ ∧ _ ∧ _ ∧ _ ∧ _ ∧ _ ∧ _ ∧ _ ∧ _ ∧ _ ∧ _ ∧ _ ∧ _ ∧ _ ∧ _ ∧ _ ∧ _ ∧ _ ∧ _ ∧ _ from ⟨g0, g1, g2, g3, g4, g5, g6, g7, g8, g9, g10, g11, g12, g13, g14, kw1, kw2, kw3, kc12, kc11, kc10, kc6, kc5, kc4, kc3, kc2, kc14, kc13⟩)
            clear g0 g1 g2 g3 g4 g5 g6 g7 g8 g9 g10 g11 g12 g13 g14 kw1 kw2 kw3 kc12 kc11 kc10 kc6 kc5 kc4 kc3 kc2 kc14 kc13 hcells hd
            refine wpOpIn_ofG rfl ?_
            simp only [List.cons_append, List.nil_append]
            gi_wp2
            obtain ⟨g0, g1, g2, g3, g4, g5, g6, g7, g8, g9, g10, g11, g12, g13, g14, kw1, kw2, kw3, kc12, kc11, kc10, kc6, kc5, kc4, kc3, kc2, kc14, kc13⟩ := HH.out
            exact ⟨_, _, _, _, _, _, _, _, _, _, _, _, _, _, _, rfl, (fun h => g0 (by simpa using h)), (fun h => g1 (by simpa using h)), (fun h => g2 (by simpa using h)), (fun h => g3 (by simpa using h)), (fun _ => rfl), (fun h => g5 (by simpa using h)), (fun h => g6 (by simpa using h)), (fun h => g7 (by simpa using h)), (fun h => g8 (by simpa using h)), (fun h => g9 (by simpa using h)), (fun h => g10 (by simpa using h)), (fun h => g11 (by simpa using h)), (fun h => g12 (by simpa using h)), (fun _ => rfl), (fun _ => rfl), (fun h => kw1 (by simpa using h)), (fun h h2 => kw2 (by simpa using h) (by simpa using h2)), (fun h => kw3 (by simpa using h)), (fun h => ⟨by have := (kc12 (by simpa using h)).1; simpa using this, by have := (kc12 (by simpa using h)).2; simpa using this⟩), (fun h => ⟨by have := (kc11 (by simpa using h)).1; simpa using this, by have := (kc11 (by simpa using h)).2.1; simpa using this, by have := (kc11 (by simpa using h)).2.2; simpa using this⟩), (fun h => (by have := (kc10 (by simpa using h)); simpa using this)), (fun h => (by have := (kc6 (by simpa using h)); simpa using this)), (fun h => (by have := (kc5 (by simpa using h)); simpa using this)), (fun h => (by have := (kc4 (by simpa using h)); simpa using this)), (fun h => ⟨by have := (kc3 (by simpa using h)).1; simpa using this, by have := (kc3 (by simpa using h)).2; simpa using this⟩), (fun h => (by have := (kc2 (by simpa using h)); simpa using this)), (fun h => (by have := kc13 d13; simpa using this)), (fun h => (by have := (kc13 (by simpa using h)); simpa using this))⟩
      case done =>
        rintro D ys W hD hS ⟨S', hP'⟩ hK
        have hyl : ys.length = zl4 := by
          have h1 := congrArg List.length hS
          simp at h1
          rw [hzl4.out]; exact h1
        have hrt := hP'.rest
        have eI : W.heap[w4.heap.size + 1]? = some (.cells [.int .i64 (ys.length : Int)].toArray 3 (0, 0)) := hrt.blk (by simp)
        have eW : W.heap[w4.heap.size]? = some (.cells [.slice ao4 zl4 c4].toArray 37 (0, 0)) := hrt.blk (by rw [hbfix.out]; simp)
        have eR : W.heap[w.heap.size + 1 + 1]? = some (.cells [.bool false].toArray 4 (0, 0)) := hrt.blk (by rw [hbfix.out, hrest2.out, hrest.out]; simp)
        rw [hyl] at eI
        have cI : W.cell? ⟨w4.heap.size + 1, 0, none⟩ = some (.int .i64 (zl4 : Int)) := by rw [cell_at eI]; rfl
        have cW : W.cell? ⟨w4.heap.size, 0, none⟩ = some (.slice ao4 zl4 c4) := by rw [cell_at eW]; rfl
        have cR : W.cell? ⟨w.heap.size + 1 + 1, 0, none⟩ = some (.bool false) := by rw [cell_at eR]; rfl
        have fR : W.frozen? ⟨w.heap.size + 1 + 1, 0, none⟩ = false := free_at eR 0
        have HB9 := hid (show Below w.heap.size w W from hrt.into (by rw [hbfix.out, hrest2.out, hrest.out]; simp))
        have HK := hid hK
        have hDD := hid hD
        have ER := hid eR
        have lD : Hid (w.heap.size + 1 + 1 < D) := hid (by have := (Array.getElem?_eq_some_iff.1 PIw.out).1; omega)
        clear hrt eI eW eR hP' hK hS hD hyl
        gi_wp2
        have k1 : (W.setCell ⟨w.heap.size + 1 + 1, 0, none⟩ (.bool true)).heap[D]? = some (.deferred (some [])) := (other_set W 0 _ (by have := lD.out; omega)).trans HK.out
        refine ⟨by simp, .inl ⟨_, _, rfl, run_takeDeferred k1, ?_⟩⟩
        have hb2 : ((W.setCell ⟨w.heap.size + 1 + 1, 0, none⟩ (.bool true)).putObj D (.deferred none)).heap[w.heap.size + 1 + 1]? = some (.cells #[.bool true] 4 (0, 0)) := (World.putObj_heap_other (by have := lD.out; omega)).trans (by have := heap_setCell_same (j := 0) ER.out (.bool true); simpa using this)
        refine ⟨_, res4 (b := w.heap.size + 1 + 1) (v := true) rfl (by rw [cell_at hb2]; rfl), rfl, ?_⟩
        have B1 := HB9.out.setCell (p := ⟨w.heap.size + 1 + 1, 0, none⟩) (by simp only; omega) (.bool true)
        exact B1.trans (belowK_b (w := w) (Nat.le_refl _) _ D _ (.deferred none) (by have := lD.out; omega) k1 rfl rfl)
      case stop =>
        rintro D c pre W _ _ h _
        exact h.elim

end Go.Proofs.Ytaomhahmpbfjhaa
