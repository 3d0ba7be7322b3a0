import Derived.Test.YtkcepkehgkkkbabDoorSta
import Derived.Test.YtkcepkehgkkkbabDoorChecksLaw
import Derived.Test.YtkcepkehgkkkbabDoorDoneG
import Derived.Test.YtkcepkehgkkkbabDoorDoneN
namespace Go.Proofs.YtkcepkehgkkkbabDoor
open Go.RowKit
set_option linter.unusedVariables false

abbrev emp : ByteArray := ⟨#[]⟩
theorem emp_of {s : ByteArray} (h : (s.size : Int) = 0) : s = emp := by
  have h2 : s.data.size = 0 := by have : s.data.size = s.size := rfl; omega
  cases s with
  | mk a => simp only at h2; rw [Array.eq_empty_of_size_eq_zero h2]
theorem chk_1 {nm tx : ByteArray} {n m : Int} (h : chkA 1 nm.size tx.size n m = 0) : (1 ≤ (nm.size : Int) ∧ (nm.size : Int) ≤ 16) ∧ (tx.size : Int) = 0 ∧ n = 0 ∧ m = 0 := by
  rw [chkA_in (by omega) (by omega)] at h
  simp only [chkT, formN, chkR, wr, ex, hs, hl] at h
  simp only [Int.reduceToNat, Nat.reduceMul, Nat.reduceAdd, List.getD_cons_succ, List.getD_cons_zero] at h
  repeat' (split at h)
  all_goals simp_all
  all_goals omega

theorem chk_2 {nm tx : ByteArray} {n m : Int} (h : chkA 2 nm.size tx.size n m = 0) : (1 ≤ (nm.size : Int) ∧ (nm.size : Int) ≤ 16) ∧ (tx.size : Int) = 0 ∧ n = 0 ∧ m = 0 := by
  rw [chkA_in (by omega) (by omega)] at h
  simp only [chkT, formN, chkR, wr, ex, hs, hl] at h
  simp only [Int.reduceToNat, Nat.reduceMul, Nat.reduceAdd, List.getD_cons_succ, List.getD_cons_zero] at h
  repeat' (split at h)
  all_goals simp_all
  all_goals omega

theorem chk_3 {nm tx : ByteArray} {n m : Int} (h : chkA 3 nm.size tx.size n m = 0) : (1 ≤ (nm.size : Int) ∧ (nm.size : Int) ≤ 16) ∧ (0 ≤ (tx.size : Int) ∧ (tx.size : Int) ≤ 64) ∧ n = 0 ∧ m = 0 := by
  rw [chkA_in (by omega) (by omega)] at h
  simp only [chkT, formN, chkR, wr, ex, hs, hl] at h
  simp only [Int.reduceToNat, Nat.reduceMul, Nat.reduceAdd, List.getD_cons_succ, List.getD_cons_zero] at h
  repeat' (split at h)
  all_goals simp_all
  all_goals omega

theorem chk_4 {nm tx : ByteArray} {n m : Int} (h : chkA 4 nm.size tx.size n m = 0) : (1 ≤ (nm.size : Int) ∧ (nm.size : Int) ≤ 16) ∧ (tx.size : Int) = 0 ∧ (0 ≤ n ∧ n ≤ 1099511627776) ∧ m = 0 := by
  rw [chkA_in (by omega) (by omega)] at h
  simp only [chkT, formN, chkR, wr, ex, hs, hl] at h
  simp only [Int.reduceToNat, Nat.reduceMul, Nat.reduceAdd, List.getD_cons_succ, List.getD_cons_zero] at h
  repeat' (split at h)
  all_goals simp_all
  all_goals omega

theorem chk_5 {nm tx : ByteArray} {n m : Int} (h : chkA 5 nm.size tx.size n m = 0) : (1 ≤ (nm.size : Int) ∧ (nm.size : Int) ≤ 16) ∧ (1 ≤ (tx.size : Int) ∧ (tx.size : Int) ≤ 16) ∧ n = 0 ∧ m = 0 := by
  rw [chkA_in (by omega) (by omega)] at h
  simp only [chkT, formN, chkR, wr, ex, hs, hl] at h
  simp only [Int.reduceToNat, Nat.reduceMul, Nat.reduceAdd, List.getD_cons_succ, List.getD_cons_zero] at h
  repeat' (split at h)
  all_goals simp_all
  all_goals omega

theorem chk_6 {nm tx : ByteArray} {n m : Int} (h : chkA 6 nm.size tx.size n m = 0) : (1 ≤ (nm.size : Int) ∧ (nm.size : Int) ≤ 16) ∧ (tx.size : Int) = 0 ∧ (0 ≤ n ∧ n ≤ 1099511627776) ∧ (1 ≤ m ∧ m ≤ 8) := by
  rw [chkA_in (by omega) (by omega)] at h
  simp only [chkT, formN, chkR, wr, ex, hs, hl] at h
  simp only [Int.reduceToNat, Nat.reduceMul, Nat.reduceAdd, List.getD_cons_succ, List.getD_cons_zero] at h
  repeat' (split at h)
  all_goals simp_all
  all_goals omega

theorem chk_7 {nm tx : ByteArray} {n m : Int} (h : chkA 7 nm.size tx.size n m = 0) : (1 ≤ (nm.size : Int) ∧ (nm.size : Int) ≤ 16) ∧ (tx.size : Int) = 0 ∧ n = 0 ∧ m = 0 := by
  rw [chkA_in (by omega) (by omega)] at h
  simp only [chkT, formN, chkR, wr, ex, hs, hl] at h
  simp only [Int.reduceToNat, Nat.reduceMul, Nat.reduceAdd, List.getD_cons_succ, List.getD_cons_zero] at h
  repeat' (split at h)
  all_goals simp_all
  all_goals omega

theorem chk_8 {nm tx : ByteArray} {n m : Int} (h : chkA 8 nm.size tx.size n m = 0) : (nm.size : Int) = 0 ∧ (tx.size : Int) = 0 ∧ n = 0 ∧ m = 0 := by
  rw [chkA_in (by omega) (by omega)] at h
  simp only [chkT, formN, chkR, wr, ex, hs, hl] at h
  simp only [Int.reduceToNat, Nat.reduceMul, Nat.reduceAdd, List.getD_cons_succ, List.getD_cons_zero] at h
  repeat' (split at h)
  all_goals simp_all
  all_goals omega

/-- An op that may be is small. -/
theorem chk_small {k : Int} {nm tx : ByteArray} {n m : Int} (h : chkA k nm.size tx.size n m = 0) : nm.size ≤ 16 ∧ tx.size ≤ 64 ∧ (0 ≤ n ∧ n ≤ 1099511627776) ∧ (0 ≤ m ∧ m ≤ 8) ∧ 1 ≤ k ∧ k ≤ 8 := by
  have hk : 1 ≤ k ∧ k ≤ 8 := by
    by_cases hk : k < 1 ∨ 8 < k
    · rw [chkA_out hk] at h; omega
    · omega
  obtain rfl | rfl | rfl | rfl | rfl | rfl | rfl | rfl : k = 1 ∨ k = 2 ∨ k = 3 ∨ k = 4 ∨ k = 5 ∨ k = 6 ∨ k = 7 ∨ k = 8 := by omega
  · have := chk_1 h; omega
  · have := chk_2 h; omega
  · have := chk_3 h; omega
  · have := chk_4 h; omega
  · have := chk_5 h; omega
  · have := chk_6 h; omega
  · have := chk_7 h; omega
  · have := chk_8 h; omega
/-- What is known behind an op. -/
abbrev GD (P : Nat) (S : St) (nm tx : ByteArray) (n m k : Int) : Int → Int → Int → Value → List Comp → Prop := fun c x j v post => ∃ (S' : St) (items : List ByteArray) (so : Option Addr) (sc : Nat), v = .slice so items.length sc ∧ post = shL P S' ++ [ownC 9 v (txtV items)] ∧ Deed S nm tx n m k S' c x items j
abbrev DOut (P : Nat) (S : St) (nm tx : ByteArray) (n m k : Int) (cs : List Comp) (e : Ending) (w : World) : Prop := ∃ c x j so sn sc post, e = .returned (.tuple #[resV c x (.slice so sn sc), .int .i64 j]) ∧ GD P S nm tx n m k c x j (.slice so sn sc) post ∧ All (post ++ cs) w
theorem DOut.nil {P : Nat} {S S' : St} {nm tx : ByteArray} {n m k c x j : Int} {cs : List Comp} {w : World} (h : Deed S nm tx n m k S' c x [] j) (A : All (shL P S' ++ cs) w) : DOut P S nm tx n m k cs (.returned (.tuple #[resV c x (.slice none 0 0), .int .i64 j])) w := by
  refine ⟨c, x, j, none, 0, 0, _, rfl, ⟨S', [], none, 0, rfl, rfl, h⟩, ?_⟩
  have A2 := A.addNil (e := 9)
  refine A2.perm ?_
  simp only [List.append_assoc, List.cons_append, List.nil_append]
  exact List.perm_middle.symm
theorem DOut.some {P : Nat} {S S' : St} {nm tx : ByteArray} {n m k c x j : Int} {cs : List Comp} {w : World} {items : List ByteArray} {so : Option Addr} {sc : Nat} (h : Deed S nm tx n m k S' c x items j) (A : All (shL P S' ++ (ownC 9 (.slice so items.length sc) (txtV items) :: cs)) w) : DOut P S nm tx n m k cs (.returned (.tuple #[resV c x (.slice so items.length sc), .int .i64 j])) w := by
  refine ⟨c, x, j, so, items.length, sc, _, rfl, ⟨S', items, so, sc, rfl, rfl, h⟩, ?_⟩
  simpa using A
theorem All.deep {a b c o : Comp} {rs cs : List Comp} {w : World} (h : All (a :: b :: c :: o :: (rs ++ cs)) w) : All (a :: b :: c :: (rs ++ (o :: cs))) w :=
  h.perm (List.Perm.cons _ (List.Perm.cons _ (List.Perm.cons _ List.perm_middle.symm)))
theorem All.deep2 {a b o : Comp} {rs cs : List Comp} {w : World} (h : All (a :: o :: (rs ++ cs)) w) : All (a :: (rs ++ (o :: cs))) w :=
  h.perm (List.Perm.cons _ List.perm_middle.symm)

section
variable {N P : Nat} {S : St} {nm tx : ByteArray} {n m k : Int}

theorem deed_make (hS : OkS N S) (k : Int) (cs : List Comp) (w : World) (h : All (shL P S ++ cs) w) (hk : k = 1) (hn : 0 < nm.size) : Calls Tryd.prog 35 #[.pointer (some ⟨P, 0, none⟩), .int .i64 (findN (stV S) nm), opV k nm tx n m] w (DOut P S nm tx n m k cs) := by
  subst hk
  have h8 : (stV S).length = 8 := by rw [stV_len]; exact hS.len
  have h' : All (blkC P (flat (stV S)) 56 :: (S.flatMap slC ++ cs)) w := h
  by_cases hf : findN (stV S) nm = -1
  · rcases free_cases hS with h0 | ⟨f, h0, hs⟩
    · rw [hf]
      refine (make_full h' h8 h0 1 nm tx n m).mono ?_
      rintro e w' ⟨rfl, A⟩
      exact DOut.nil (.full hf h0) A
    · rw [hf]
      refine (make_new h' h8 h0 (stV_at hs) 1 nm tx n m).mono ?_
      rintro e w' ⟨b, rfl, A⟩
      have hfl : f < S.length := (List.getElem?_eq_some_iff.1 hs).1
      refine DOut.nil (.make f b hf h0 hs) ?_
      refine All.shIn (q := ⟨nm, 0, [], .slice none 0 0, b, 0, .map []⟩) hfl ?_
      have e1 : S.flatMap slC ++ cs = S.flatMap slC ++ cs := rfl
      have A2 : All (ownC 9 (.slice none 0 0) (txtV []) :: blkC P (flat ((stV S).set f ⟨nm, 0, .slice none 0 0, .map (some b)⟩)) 56 :: mapC b 0 (.map []) :: (S.flatMap slC ++ cs)) w' := A.addNil (e := 9)
      have p : (S.flatMap slC ++ cs).Perm (restC S f ++ cs) := by
        have := (flat_out hs).append_right cs
        simpa [slC] using this
      refine (A2.swap).perm (List.Perm.cons _ (List.Perm.cons _ (List.Perm.cons _ p)))
  · refine (make_there h' h8 hf 1 nm tx n m).mono ?_
    rintro e w' ⟨rfl, A⟩
    exact DOut.nil (.there hf) A

theorem deed_drop (hS : OkS N S) {i : Nat} {q : Qs} (hf : findN (stV S) nm = (i : Int)) (hs : S[i]? = some (some q)) (hn : q.nm = nm) (cs : List Comp) (w : World) (h : All (shL P S ++ cs) w) : Calls Tryd.prog 36 #[.pointer (some ⟨P, 0, none⟩), .int .i64 (findN (stV S) nm), opV 2 nm tx n m] w (DOut P S nm tx n m 2 cs) := by
  have h8 : (stV S).length = 8 := by rw [stV_len]; exact hS.len
  have hil : i < S.length := (List.getElem?_eq_some_iff.1 hs).1
  rw [hf]
  refine (drop_any (h.shOut hs) h8 (stV_at hs) 2 nm tx n m).mono ?_
  rintro e w' ⟨rfl, A⟩
  exact DOut.nil (.drop i q hf hs hn) (All.shDrop hil (A.swap.tail.swap.tail))

theorem iv_form {i : Nat} {q : Qs} {cs : List Comp} {w : World} (h : All (shL P S ++ cs) w) (hs : S[i]? = some (some q)) : ∃ ao c, q.iv = .slice ao q.items.length c := by
  have h2 := (h.shOut hs).tail.1.2.1
  obtain ⟨ao, c, e⟩ := owns_form (h2 : w.ownsRow 0 9 1 q.iv (txtV q.items).length (txtV q.items))
  rw [txtV_length] at e
  exact ⟨ao, c, e⟩
theorem deed_push (hS : OkS N S) {i : Nat} {q : Qs} (hf : findN (stV S) nm = (i : Int)) (hs : S[i]? = some (some q)) (hn : q.nm = nm) (cs : List Comp) (w : World) (h : All (shL P S ++ cs) w) : Calls Tryd.prog 37 #[.pointer (some ⟨P, 0, none⟩), .int .i64 (findN (stV S) nm), opV 3 nm tx n m] w (DOut P S nm tx n m 3 cs) := by
  have h8 : (stV S).length = 8 := by rw [stV_len]; exact hS.len
  have hil : i < S.length := (List.getElem?_eq_some_iff.1 hs).1
  have O := hS.each i q hs
  have o1 := O.len
  have o2 := O.fin
  obtain ⟨ao, c, eiv⟩ := iv_form h hs
  have hq : (stV S)[i]? = some ⟨q.nm, (q.first : Int), .slice ao q.items.length c, .map (some q.b)⟩ := by rw [stV_at hs, slV, Qs.v, eiv]
  have hq2 : (stV S)[i]? = some ⟨q.nm, (q.first : Int), q.iv, .map (some q.b)⟩ := stV_at hs
  rw [hf]
  by_cases h32 : q.items.length = 32
  · refine (push_many (h.shOut hs) h8 hq h32 (by omega) (by omega) 3 nm tx n m).mono ?_
    rintro e w' ⟨rfl, A⟩
    exact DOut.nil (.pushFull i q hf hs hn (Or.inl h32)) (All.shSame hs A)
  · by_cases hmx : q.first + q.items.length = 1099511627776
    · refine (push_last (h.shOut hs) h8 hq h32 (by omega) (by omega) (by omega) 3 nm tx n m).mono ?_
      rintro e w' ⟨rfl, A⟩
      exact DOut.nil (.pushFull i q hf hs hn (Or.inr hmx)) (All.shSame hs A)
    · refine (push_ok (q := ⟨q.nm, (q.first : Int), q.iv, .map (some q.b)⟩) (h.shOut hs) h8 hq2 (by omega) (by simp only; omega) (by simp only; omega) 3 nm tx n m).mono ?_
      rintro e w' ⟨iv', rfl, A⟩
      exact DOut.nil (.push i q iv' hf hs hn (by omega) (by omega)) (All.shIn (q := ⟨q.nm, q.first, q.items ++ [tx], iv', q.b, q.n, q.D⟩) hil A)

theorem deed_trim (hS : OkS N S) (hN : N < 1152921504606846976) {i : Nat} {q : Qs} (hf : findN (stV S) nm = (i : Int)) (hs : S[i]? = some (some q)) (hn : q.nm = nm) (hn0 : 0 ≤ n) (hn1 : n ≤ 1099511627776) (cs : List Comp) (w : World) (h : All (shL P S ++ cs) w) : Calls Tryd.prog 38 #[.pointer (some ⟨P, 0, none⟩), .int .i64 (findN (stV S) nm), opV 4 nm tx n m] w (DOut P S nm tx n m 4 cs) := by
  have h8 : (stV S).length = 8 := by rw [stV_len]; exact hS.len
  have hil : i < S.length := (List.getElem?_eq_some_iff.1 hs).1
  have O := hS.each i q hs
  have o1 := O.len
  have o2 := O.fin
  have o3 := O.cn
  have hq2 : (stV S)[i]? = some ⟨q.nm, (q.first : Int), q.iv, .map (some q.b)⟩ := stV_at hs
  rw [hf]
  by_cases hc : n ≤ q.first ∨ q.items = []
  · refine (trim_none (h.shOut hs) h8 hq2 o1 (by omega) (by omega) (by omega) 4 nm tx n m hn0 hn1 hc).mono ?_
    rintro e w' ⟨rfl, A⟩
    exact DOut.nil (.trimNone i q hf hs hn hc) (All.shSame hs A)
  · have hlen : 0 < q.items.length := by
      apply Nat.pos_of_ne_zero
      intro h0
      exact hc (Or.inr (List.eq_nil_of_length_eq_zero h0))
    refine (trim_some (h.shOut hs) h8 hq2 o1 (by omega) (by omega) (by omega) 4 nm tx n m hn0 hn1 (by omega) hlen).mono ?_
    rintro e w' ⟨v', D', d, rfl, hd, hd0, hdl, hT, A⟩
    refine DOut.nil (.trim i q v' D' d hf hs hn hd hd0 hdl hT) (All.shIn (q := ⟨q.nm, q.first + d, q.items.drop d, v', q.b, q.n, D'⟩) hil ?_)
    simpa [Qs.v] using A

theorem deed_take (hS : OkS N S) (hN : N < 1152921504606846976) {i : Nat} {q : Qs} (hf : findN (stV S) nm = (i : Int)) (hs : S[i]? = some (some q)) (hn : q.nm = nm) (htx : tx.size ≤ 64) (cs : List Comp) (w : World) (h : All (shL P S ++ cs) w) : Calls Tryd.prog 39 #[.pointer (some ⟨P, 0, none⟩), .int .i64 (findN (stV S) nm), opV 5 nm tx n m] w (DOut P S nm tx n m 5 cs) := by
  have h8 : (stV S).length = 8 := by rw [stV_len]; exact hS.len
  have hil : i < S.length := (List.getElem?_eq_some_iff.1 hs).1
  have O := hS.each i q hs
  have o1 := O.len
  have o2 := O.fin
  have o3 := O.cn
  have htm : tx.size ≤ maxLen := by unfold maxLen; omega
  obtain ⟨ao, c, eiv⟩ := iv_form h hs
  have hq : (stV S)[i]? = some ⟨q.nm, (q.first : Int), .slice ao q.items.length c, .map (some q.b)⟩ := by rw [stV_at hs, slV, Qs.v, eiv]
  have hq2 : (stV S)[i]? = some ⟨q.nm, (q.first : Int), q.iv, .map (some q.b)⟩ := stV_at hs
  have hA := h.shOut hs
  have hB : All (blkC P (flat (stV S)) 56 :: mapC q.b q.n q.D :: ownC 9 q.iv (txtV q.items) :: (restC S i ++ cs)) w := hA.perm (List.Perm.cons _ (List.Perm.swap _ _ _))
  have hset : (stV S).set i (Qs.v ⟨q.nm, q.first, q.items, q.iv, q.b, q.n + 1, q.D⟩) = stV S := by
    have h1 : (stV S)[i]? = some (Qs.v ⟨q.nm, q.first, q.items, q.iv, q.b, q.n + 1, q.D⟩) := stV_at hs
    obtain ⟨hl, e⟩ := List.getElem?_eq_some_iff.1 h1
    rw [← e]; simp
  rw [hf]
  cases hh : Maps.has q.D (.string tx.data.toList) with
  | false =>
    by_cases h4 : Maps.size q.D = 4
    · refine (take_full hB h8 hq (by omega) (by omega) 5 nm tx n m htm hh h4).mono ?_
      rintro e w' ⟨rfl, A⟩
      exact DOut.nil (.takeFull i q hf hs hn hh h4) (All.shSame hs (A.perm (List.Perm.cons _ (List.Perm.swap _ _ _))))
    · cases hit : q.items with
      | nil =>
        have hq0 : (stV S)[i]? = some ⟨q.nm, (q.first : Int), .slice ao 0 c, .map (some q.b)⟩ := by rw [hq, hit]; rfl
        refine (take_bare hB h8 hq0 (by omega) (by omega) 5 nm tx n m htm hh h4 rfl).mono ?_
        rintro e w' ⟨rfl, A⟩
        exact DOut.nil (.takeEmpty i q hf hs hn (Or.inl ⟨hh, h4, hit⟩)) (All.shSame hs (A.perm (List.Perm.cons _ (List.Perm.swap _ _ _))))
      | cons item its =>
        have g4 := O.gs
        have hA2 := hA
        rw [hit] at hA2 o1 o2
        simp only [List.length_cons] at o1 o2
        refine (take_first hA2 h8 hq2 (by omega) (by omega) (by omega) 5 nm tx n m htm hh (by omega) (by omega)).mono ?_
        rintro e w' ⟨so, rfl, A⟩
        have D1 : Deed S nm tx n m 5 _ 0 _ [item] (i : Int) := .take i q 0 item hf hs hn (by rw [hit]; rfl) (Or.inr ⟨hh, by omega, rfl⟩)
        have e0 : (q.first : Int) + ((0 : Nat) : Int) = (q.first : Int) := by omega
        rw [e0] at D1
        refine DOut.some (items := [item]) D1 (All.shIn (q := ⟨q.nm, q.first, q.items, q.iv, q.b, q.n + 1, q.D.put (.string tx.data.toList) (.lit (.int .i64 ((q.first : Int) + 1)))⟩) hil ?_)
        have A2 := A.deep
        rw [← hit] at A2
        have e2 : (stV S).set i (Qs.v ⟨q.nm, q.first, q.items, q.iv, q.b, q.n + 1, q.D.put (.string tx.data.toList) (.lit (.int .i64 ((q.first : Int) + 1)))⟩) = stV S := hset
        rw [e2]
        exact A2
  | true =>
    obtain ⟨_, _, cc, hc1, hc2, hc3⟩ := O.gk _ hh
    by_cases he : cc = q.first + q.items.length
    · refine (take_done hB h8 hq (by omega) (by omega) 5 nm tx n m htm hh (by rw [hc1]; omega)).mono ?_
      rintro e w' ⟨rfl, A⟩
      exact DOut.nil (.takeEmpty i q hf hs hn (Or.inr ⟨hh, by rw [hc1]; omega⟩)) (All.shSame hs (A.perm (List.Perm.cons _ (List.Perm.swap _ _ _))))
    · obtain ⟨d, rfl⟩ : ∃ d, cc = q.first + d := ⟨cc - q.first, by omega⟩
      have hdl : d < q.items.length := by omega
      have hd : q.items[d]? = some q.items[d] := List.getElem?_eq_getElem hdl
      have hle : leftD q.D (.string tx.data.toList) = (q.first : Int) + (d : Int) := by rw [hc1]; omega
      refine (take_next hA h8 hq2 hd o1 (by omega) (by omega) 5 nm tx n m htm hh hle (by omega)).mono ?_
      rintro e w' ⟨so, rfl, A⟩
      refine DOut.some (items := [q.items[d]]) (.take i q d q.items[d] hf hs hn hd (Or.inl ⟨hh, hle⟩)) (All.shIn (q := ⟨q.nm, q.first, q.items, q.iv, q.b, q.n + 1, q.D.put (.string tx.data.toList) (.lit (.int .i64 ((q.first : Int) + (d : Int) + 1)))⟩) hil ?_)
      have e2 : (stV S).set i (Qs.v ⟨q.nm, q.first, q.items, q.iv, q.b, q.n + 1, q.D.put (.string tx.data.toList) (.lit (.int .i64 ((q.first : Int) + (d : Int) + 1)))⟩) = stV S := hset
      rw [e2]
      exact A.deep

theorem deed_read (hS : OkS N S) {i : Nat} {q : Qs} (hf : findN (stV S) nm = (i : Int)) (hs : S[i]? = some (some q)) (hn : q.nm = nm) (hn0 : 0 ≤ n) (hn1 : n ≤ 1099511627776) (hm0 : 1 ≤ m) (hm1 : m ≤ 8) (cs : List Comp) (w : World) (h : All (shL P S ++ cs) w) : Calls Tryd.prog 40 #[.pointer (some ⟨P, 0, none⟩), .int .i64 (findN (stV S) nm), opV 6 nm tx n m] w (DOut P S nm tx n m 6 cs) := by
  have h8 : (stV S).length = 8 := by rw [stV_len]; exact hS.len
  have O := hS.each i q hs
  have o1 := O.len
  have o2 := O.fin
  have hq2 : (stV S)[i]? = some ⟨q.nm, (q.first : Int), q.iv, .map (some q.b)⟩ := stV_at hs
  rw [hf]
  by_cases hc : (q.first : Int) + (q.items.length : Int) ≤ max n (q.first : Int)
  · refine (read_none (b := 0) (nb := 0) (h.shOut hs) h8 hq2 o1 (by omega) (by omega) 6 nm tx n m hn0 hn1 hc).mono ?_
    rintro e w' ⟨rfl, A⟩
    exact DOut.nil (.readNone i q hf hs hn hc) (All.shSame hs A)
  · obtain ⟨d, hd⟩ : ∃ d : Nat, max n (q.first : Int) = (q.first : Int) + (d : Int) := ⟨(max n (q.first : Int) - q.first).toNat, by omega⟩
    have hdl : d < q.items.length := by omega
    refine (read_some (b := 0) (nb := 0) (h.shOut hs) h8 hq2 o1 (by omega) (by omega) 6 nm tx n m hn0 hn1 hm0 hm1 hd hdl).mono ?_
    rintro e w' ⟨so, sc, rfl, A⟩
    refine DOut.some (items := (q.items.drop d).take m.toNat) (.read i q d hf hs hn hd hdl) (All.shSame hs ?_)
    exact (A.perm (List.Perm.cons _ (List.Perm.cons _ (List.Perm.swap _ _ _)))).deep

theorem deed_count (hS : OkS N S) {i : Nat} {q : Qs} (hf : findN (stV S) nm = (i : Int)) (hs : S[i]? = some (some q)) (hn : q.nm = nm) (cs : List Comp) (w : World) (h : All (shL P S ++ cs) w) : Calls Tryd.prog 41 #[.pointer (some ⟨P, 0, none⟩), .int .i64 (findN (stV S) nm), opV 7 nm tx n m] w (DOut P S nm tx n m 7 cs) := by
  have h8 : (stV S).length = 8 := by rw [stV_len]; exact hS.len
  obtain ⟨ao, c, eiv⟩ := iv_form h hs
  have hq : (stV S)[i]? = some ⟨q.nm, (q.first : Int), .slice ao q.items.length c, .map (some q.b)⟩ := by rw [stV_at hs, slV, Qs.v, eiv]
  rw [hf]
  refine (count_any (h.shOut hs) h8 hq 7 nm tx n m).mono ?_
  rintro e w' ⟨rfl, A⟩
  exact DOut.nil (.count i q hf hs hn) (All.shSame hs A)

theorem deed_list (hS : OkS N S) (at' : Int) (cs : List Comp) (w : World) (h : All (shL P S ++ cs) w) : Calls Tryd.prog 42 #[.pointer (some ⟨P, 0, none⟩), .int .i64 at', opV 8 nm tx n m] w (DOut P S nm tx n m 8 cs) := by
  have h8 : (stV S).length = 8 := by rw [stV_len]; exact hS.len
  have h' : All (blkC P (flat (stV S)) 56 :: (S.flatMap slC ++ cs)) w := h
  refine (list_any h' h8 at' 8 nm tx n m).mono ?_
  rintro e w' ⟨so, sc, rfl, A⟩
  refine DOut.some (items := nmsS (stV S)) .list ?_
  have A2 := A.perm (List.Perm.cons _ (List.perm_middle (l₁ := S.flatMap slC) (l₂ := cs)).symm)
  exact A2
end
end Go.Proofs.YtkcepkehgkkkbabDoor
