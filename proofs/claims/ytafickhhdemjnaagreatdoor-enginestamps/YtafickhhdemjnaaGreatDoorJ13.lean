import Derived.Test.YtafickhhdemjnaaGreatDoorJ9
import Derived.Test.YtafickhhdemjnaaGreatDoorJ12
import Derived.Test.YtafickhhdemjnaaGreatDoorDoneG
import Derived.Test.YtafickhhdemjnaaGreatDoorDoneN
import Derived.Test.YtafickhhdemjnaaGreatDoorJ11
namespace Go.Proofs.YtafickhhdemjnaaGreatDoor
open Go.RowKit
set_option linter.unusedVariables false

abbrev emp : ByteArray := ⟨#[]⟩
theorem emp_of {s : ByteArray} (h : (s.size : Int) = 0) : s = emp := by
  have h2 : s.data.size = 0 := by have : s.data.size = s.size := rfl; omega
  cases s with
  | mk a => simp only at h2; rw [Array.eq_empty_of_size_eq_zero h2]
theorem chk_1 {nm tx : ByteArray} {n m : Int} (h : chkA 1 nm.size tx.size n m = 0) : (1 ≤ (nm.size : Int) ∧ (nm.size : Int) ≤ 16) ∧ (tx.size : Int) = 0 ∧ n = 0 ∧ m = 0 := by
  rw [chkA_in (by omega) (by omega)] at h
  simp only [chkT, formN, chkR, wr, ex, hs, hl] at h
  simp only [Int.reduceToNat, Nat.reduceMul, Nat.reduceAdd, List.getD_cons_succ, List.getD_cons_zero] at h
  repeat' (split at h)
  all_goals simp_all
  all_goals omega

theorem chk_2 {nm tx : ByteArray} {n m : Int} (h : chkA 2 nm.size tx.size n m = 0) : (1 ≤ (nm.size : Int) ∧ (nm.size : Int) ≤ 16) ∧ (tx.size : Int) = 0 ∧ n = 0 ∧ m = 0 := by
  rw [chkA_in (by omega) (by omega)] at h
  simp only [chkT, formN, chkR, wr, ex, hs, hl] at h
  simp only [Int.reduceToNat, Nat.reduceMul, Nat.reduceAdd, List.getD_cons_succ, List.getD_cons_zero] at h
  repeat' (split at h)
  all_goals simp_all
  all_goals omega

theorem chk_3 {nm tx : ByteArray} {n m : Int} (h : chkA 3 nm.size tx.size n m = 0) : (1 ≤ (nm.size : Int) ∧ (nm.size : Int) ≤ 16) ∧ (0 ≤ (tx.size : Int) ∧ (tx.size : Int) ≤ 64) ∧ n = 0 ∧ m = 0 := by
  rw [chkA_in (by omega) (by omega)] at h
  simp only [chkT, formN, chkR, wr, ex, hs, hl] at h
  simp only [Int.reduceToNat, Nat.reduceMul, Nat.reduceAdd, List.getD_cons_succ, List.getD_cons_zero] at h
  repeat' (split at h)
  all_goals simp_all
  all_goals omega

theorem chk_4 {nm tx : ByteArray} {n m : Int} (h : chkA 4 nm.size tx.size n m = 0) : (1 ≤ (nm.size : Int) ∧ (nm.size : Int) ≤ 16) ∧ (tx.size : Int) = 0 ∧ (0 ≤ n ∧ n ≤ 1099511627776) ∧ m = 0 := by
  rw [chkA_in (by omega) (by omega)] at h
  simp only [chkT, formN, chkR, wr, ex, hs, hl] at h
  simp only [Int.reduceToNat, Nat.reduceMul, Nat.reduceAdd, List.getD_cons_succ, List.getD_cons_zero] at h
  repeat' (split at h)
  all_goals simp_all
  all_goals omega

theorem chk_5 {nm tx : ByteArray} {n m : Int} (h : chkA 5 nm.size tx.size n m = 0) : (1 ≤ (nm.size : Int) ∧ (nm.size : Int) ≤ 16) ∧ (1 ≤ (tx.size : Int) ∧ (tx.size : Int) ≤ 16) ∧ n = 0 ∧ m = 0 := by
  rw [chkA_in (by omega) (by omega)] at h
  simp only [chkT, formN, chkR, wr, ex, hs, hl] at h
  simp only [Int.reduceToNat, Nat.reduceMul, Nat.reduceAdd, List.getD_cons_succ, List.getD_cons_zero] at h
  repeat' (split at h)
  all_goals simp_all
  all_goals omega

theorem chk_6 {nm tx : ByteArray} {n m : Int} (h : chkA 6 nm.size tx.size n m = 0) : (1 ≤ (nm.size : Int) ∧ (nm.size : Int) ≤ 16) ∧ (tx.size : Int) = 0 ∧ (0 ≤ n ∧ n ≤ 1099511627776) ∧ (1 ≤ m ∧ m ≤ 8) := by
  rw [chkA_in (by omega) (by omega)] at h
  simp only [chkT, formN, chkR, wr, ex, hs, hl] at h
  simp only [Int.reduceToNat, Nat.reduceMul, Nat.reduceAdd, List.getD_cons_succ, List.getD_cons_zero] at h
  repeat' (split at h)
  all_goals simp_all
  all_goals omega

theorem chk_7 {nm tx : ByteArray} {n m : Int} (h : chkA 7 nm.size tx.size n m = 0) : (1 ≤ (nm.size : Int) ∧ (nm.size : Int) ≤ 16) ∧ (tx.size : Int) = 0 ∧ n = 0 ∧ m = 0 := by
  rw [chkA_in (by omega) (by omega)] at h
  simp only [chkT, formN, chkR, wr, ex, hs, hl] at h
  simp only [Int.reduceToNat, Nat.reduceMul, Nat.reduceAdd, List.getD_cons_succ, List.getD_cons_zero] at h
  repeat' (split at h)
  all_goals simp_all
  all_goals omega

theorem chk_8 {nm tx : ByteArray} {n m : Int} (h : chkA 8 nm.size tx.size n m = 0) : (nm.size : Int) = 0 ∧ (tx.size : Int) = 0 ∧ n = 0 ∧ m = 0 := by
  rw [chkA_in (by omega) (by omega)] at h
  simp only [chkT, formN, chkR, wr, ex, hs, hl] at h
  simp only [Int.reduceToNat, Nat.reduceMul, Nat.reduceAdd, List.getD_cons_succ, List.getD_cons_zero] at h
  repeat' (split at h)
  all_goals simp_all
  all_goals omega

/-- An op that may be is small. -/
theorem chk_small {k : Int} {nm tx : ByteArray} {n m : Int} (h : chkA k nm.size tx.size n m = 0) : nm.size ≤ 16 ∧ tx.size ≤ 64 ∧ (0 ≤ n ∧ n ≤ 1099511627776) ∧ (0 ≤ m ∧ m ≤ 8) ∧ 1 ≤ k ∧ k ≤ 8 := by
  have hk : 1 ≤ k ∧ k ≤ 8 := by
    by_cases hk : k < 1 ∨ 8 < k
    · rw [chkA_out hk] at h; omega
    · omega
  obtain rfl | rfl | rfl | rfl | rfl | rfl | rfl | rfl : k = 1 ∨ k = 2 ∨ k = 3 ∨ k = 4 ∨ k = 5 ∨ k = 6 ∨ k = 7 ∨ k = 8 := by omega
  · have := chk_1 h; omega
  · have := chk_2 h; omega
  · have := chk_3 h; omega
  · have := chk_4 h; omega
  · have := chk_5 h; omega
  · have := chk_6 h; omega
  · have := chk_7 h; omega
  · have := chk_8 h; omega
/-- What is known behind an op. -/
abbrev GD (P : Nat) (S : St) (nm tx : ByteArray) (n m k : Int) : Int → Int → Int → Value → List Comp → Prop := fun c x j v post => ∃ (S' : St) (items : List ByteArray) (so : Option Addr) (sc : Nat), v = .slice so items.length sc ∧ post = shL P S' ++ [ownC 9 v (txtV items)] ∧ Deed S nm tx n m k S' c x items j
abbrev DOut (P : Nat) (S : St) (nm tx : ByteArray) (n m k : Int) (cs : List Comp) (e : Ending) (w : World) : Prop := ∃ c x j so sn sc post, e = .returned (.tuple #[resV c x (.slice so sn sc), .int .i64 j]) ∧ GD P S nm tx n m k c x j (.slice so sn sc) post ∧ All (post ++ cs) w
theorem DOut.nil {P : Nat} {S S' : St} {nm tx : ByteArray} {n m k c x j : Int} {cs : List Comp} {w : World} (h : Deed S nm tx n m k S' c x [] j) (A : All (shL P S' ++ cs) w) : DOut P S nm tx n m k cs (.returned (.tuple #[resV c x (.slice none 0 0), .int .i64 j])) w := by
  refine ⟨c, x, j, none, 0, 0, _, rfl, ⟨S', [], none, 0, rfl, rfl, h⟩, ?_⟩
  have A2 := A.addNil (e := 9)
  refine A2.perm ?_
  simp only [List.append_assoc, List.cons_append, List.nil_append]
  exact List.perm_middle.symm
theorem DOut.some {P : Nat} {S S' : St} {nm tx : ByteArray} {n m k c x j : Int} {cs : List Comp} {w : World} {items : List ByteArray} {so : Option Addr} {sc : Nat} (h : Deed S nm tx n m k S' c x items j) (A : All (shL P S' ++ (ownC 9 (.slice so items.length sc) (txtV items) :: cs)) w) : DOut P S nm tx n m k cs (.returned (.tuple #[resV c x (.slice so items.length sc), .int .i64 j])) w := by
  refine ⟨c, x, j, so, items.length, sc, _, rfl, ⟨S', items, so, sc, rfl, rfl, h⟩, ?_⟩
  simpa using A
theorem All.deep {a b c o : Comp} {rs cs : List Comp} {w : World} (h : All (a :: b :: c :: o :: (rs ++ cs)) w) : All (a :: b :: c :: (rs ++ (o :: cs))) w :=
  h.perm (List.Perm.cons _ (List.Perm.cons _ (List.Perm.cons _ List.perm_middle.symm)))
theorem All.deep2 {a b o : Comp} {rs cs : List Comp} {w : World} (h : All (a :: o :: (rs ++ cs)) w) : All (a :: (rs ++ (o :: cs))) w :=
  h.perm (List.Perm.cons _ List.perm_middle.symm)

section
variable {N P : Nat} {S : St} {nm tx : ByteArray} {n m k : Int}

theorem deed_make (hS : OkS N S) (k : Int) (cs : List Comp) (w : World) (h : All (shL P S ++ cs) w) (hk : k = 1) (hn : 0 < nm.size) : Calls Tryz.prog 149 #[.pointer (some ⟨P, 0, none⟩), .int .i64 (findN (stV S) nm), opV k nm tx n m] w (DOut P S nm tx n m k cs) := by
  subst hk
  have h8 : (stV S).length = 8 := by rw [stV_len]; exact hS.len
  have h' : All (blkC P (flat (stV S)) 159 :: (S.flatMap slC ++ cs)) w := h
  by_cases hf : findN (stV S) nm = -1
  · rcases free_cases hS with h0 | ⟨f, h0, hs⟩
    · rw [hf]
      refine (make_full h' h8 h0 1 nm tx n m).mono ?_
      rintro e w' ⟨rfl, A⟩
      exact DOut.nil (.full hf h0) A
    · rw [hf]
      refine (make_new h' h8 h0 (stV_at hs) 1 nm tx n m).mono ?_
      rintro e w' ⟨b, rfl, A⟩
      have hfl : f < S.length := (List.getElem?_eq_some_iff.1 hs).1
      refine DOut.nil (.make f b hf h0 hs) ?_
      refine All.shIn (q := ⟨nm, 0, [], .slice none 0 0, b, 0, .map []⟩) hfl ?_
      have e1 : S.flatMap slC ++ cs = S.flatMap slC ++ cs := rfl
      have A2 : All (ownC 9 (.slice none 0 0) (txtV []) :: blkC P (flat ((stV S).set f ⟨nm, 0, .slice none 0 0, .map (some b)⟩)) 159 :: mapC b 0 (.map []) :: (S.flatMap slC ++ cs)) w' := A.addNil (e := 9)
      have p : (S.flatMap slC ++ cs).Perm (restC S f ++ cs) := by
        have := (flat_out hs).append_right cs
        simpa [slC] using this
      refine (A2.swap).perm (List.Perm.cons _ (List.Perm.cons _ (List.Perm.cons _ p)))
  · refine (make_there h' h8 hf 1 nm tx n m).mono ?_
    rintro e w' ⟨rfl, A⟩
    exact DOut.nil (.there hf) A

theorem deed_drop (hS : OkS N S) {i : Nat} {q : Qs} (hf : findN (stV S) nm = (i : Int)) (hs : S[i]? = some (some q)) (hn : q.nm = nm) (cs : List Comp) (w : World) (h : All (shL P S ++ cs) w) : Calls Tryz.prog 150 #[.pointer (some ⟨P, 0, none⟩), .int .i64 (findN (stV S) nm), opV 2 nm tx n m] w (DOut P S nm tx n m 2 cs) := by
  have h8 : (stV S).length = 8 := by rw [stV_len]; exact hS.len
  have hil : i < S.length := (List.getElem?_eq_some_iff.1 hs).1
  rw [hf]
  refine (drop_any (h.shOut hs) h8 (stV_at hs) 2 nm tx n m).mono ?_
  rintro e w' ⟨rfl, A⟩
  exact DOut.nil (.drop i q hf hs hn) (All.shDrop hil (A.swap.tail.swap.tail))

theorem iv_form {i : Nat} {q : Qs} {cs : List Comp} {w : World} (h : All (shL P S ++ cs) w) (hs : S[i]? = some (some q)) : ∃ ao c, q.iv = .slice ao q.items.length c := by
  have h2 := (h.shOut hs).tail.1.2.1
  obtain ⟨ao, c, e⟩ := owns_form (h2 : w.ownsRow 0 9 1 q.iv (txtV q.items).length (txtV q.items))
  rw [txtV_length] at e
  exact ⟨ao, c, e⟩
theorem deed_push (hS : OkS N S) {i : Nat} {q : Qs} (hf : findN (stV S) nm = (i : Int)) (hs : S[i]? = some (some q)) (hn : q.nm = nm) (cs : List Comp) (w : World) (h : All (shL P S ++ cs) w) : Calls Tryz.prog 151 #[.pointer (some ⟨P, 0, none⟩), .int .i64 (findN (stV S) nm), opV 3 nm tx n m] w (DOut P S nm tx n m 3 cs) := by
  have h8 : (stV S).length = 8 := by rw [stV_len]; exact hS.len
  have hil : i < S.length := (List.getElem?_eq_some_iff.1 hs).1
  have O := hS.each i q hs
  have o1 := O.len
  have o2 := O.fin
  obtain ⟨ao, c, eiv⟩ := iv_form h hs
  have hq : (stV S)[i]? = some ⟨q.nm, (q.first : Int), .slice ao q.items.length c, .map (some q.b)⟩ := by rw [stV_at hs, slV, Qs.v, eiv]
  have hq2 : (stV S)[i]? = some ⟨q.nm, (q.first : Int), q.iv, .map (some q.b)⟩ := stV_at hs
  rw [hf]
  by_cases h32 : q.items.length = 32
  · refine (push_many (h.shOut hs) h8 hq h32 (by omega) (by omega) 3 nm tx n m).mono ?_
    rintro e w' ⟨rfl, A⟩
    exact DOut.nil (.pushFull i q hf hs hn (Or.inl h32)) (All.shSame hs A)
  · by_cases hmx : q.first + q.items.length = 1099511627776
    · refine (push_last (h.shOut hs) h8 hq h32 (by omega) (by omega) (by omega) 3 nm tx n m).mono ?_
      rintro e w' ⟨rfl, A⟩
      exact DOut.nil (.pushFull i q hf hs hn (Or.inr hmx)) (All.shSame hs A)
    · refine (push_ok (q := ⟨q.nm, (q.first : Int), q.iv, .map (some q.b)⟩) (h.shOut hs) h8 hq2 (by omega) (by simp only; omega) (by simp only; omega) 3 nm tx n m).mono ?_
      rintro e w' ⟨iv', rfl, A⟩
      exact DOut.nil (.push i q iv' hf hs hn (by omega) (by omega)) (All.shIn (q := ⟨q.nm, q.first, q.items ++ [tx], iv', q.b, q.n, q.D⟩) hil A)

theorem deed_trim (hS : OkS N S) (hN : N < 1152921504606846976) {i : Nat} {q : Qs} (hf : findN (stV S) nm = (i : Int)) (hs : S[i]? = some (some q)) (hn : q.nm = nm) (hn0 : 0 ≤ n) (hn1 : n ≤ 1099511627776) (cs : List Comp) (w : World) (h : All (shL P S ++ cs) w) : Calls Tryz.prog 152 #[.pointer (some ⟨P, 0, none⟩), .int .i64 (findN (stV S) nm), opV 4 nm tx n m] w (DOut P S nm tx n m 4 cs) := by
  have h8 : (stV S).length = 8 := by rw [stV_len]; exact hS.len
  have hil : i < S.length := (List.getElem?_eq_some_iff.1 hs).1
  have O := hS.each i q hs
  have o1 := O.len
  have o2 := O.fin
  have o3 := O.cn
  have hq2 : (stV S)[i]? = some ⟨q.nm, (q.first : Int), q.iv, .map (some q.b)⟩ := stV_at hs
  rw [hf]
  by_cases hc : n ≤ q.first ∨ q.items = []
  · refine (trim_none (h.shOut hs) h8 hq2 o1 (by omega) (by omega) (by omega) 4 nm tx n m hn0 hn1 hc).mono ?_
    rintro e w' ⟨rfl, A⟩
    exact DOut.nil (.trimNone i q hf hs hn hc) (All.shSame hs A)
  · have hlen : 0 < q.items.length := by
      apply Nat.pos_of_ne_zero
      intro h0
      exact hc (Or.inr (List.eq_nil_of_length_eq_zero h0))
    refine (trim_some (h.shOut hs) h8 hq2 o1 (by omega) (by omega) (by omega) 4 nm tx n m hn0 hn1 (by omega) hlen).mono ?_
    rintro e w' ⟨v', D', d, rfl, hd, hd0, hdl, hT, A⟩
    refine DOut.nil (.trim i q v' D' d hf hs hn hd hd0 hdl hT) (All.shIn (q := ⟨q.nm, q.first + d, q.items.drop d, v', q.b, q.n, D'⟩) hil ?_)
    simpa [Qs.v] using A

theorem deed_take (hS : OkS N S) (hN : N < 1152921504606846976) {i : Nat} {q : Qs} (hf : findN (stV S) nm = (i : Int)) (hs : S[i]? = some (some q)) (hn : q.nm = nm) (htx : tx.size ≤ 64) (cs : List Comp) (w : World) (h : All (shL P S ++ cs) w) : Calls Tryz.prog 153 #[.pointer (some ⟨P, 0, none⟩), .int .i64 (findN (stV S) nm), opV 5 nm tx n m] w (DOut P S nm tx n m 5 cs) := by
  have h8 : (stV S).length = 8 := by rw [stV_len]; exact hS.len
  have hil : i < S.length := (List.getElem?_eq_some_iff.1 hs).1
  have O := hS.each i q hs
  have o1 := O.len
  have o2 := O.fin
  have o3 := O.cn
  have htm : tx.size ≤ maxLen := by unfold maxLen; omega
  obtain ⟨ao, c, eiv⟩ := iv_form h hs
  have hq : (stV S)[i]? = some ⟨q.nm, (q.first : Int), .slice ao q.items.length c, .map (some q.b)⟩ := by rw [stV_at hs, slV, Qs.v, eiv]
  have hq2 : (stV S)[i]? = some ⟨q.nm, (q.first : Int), q.iv, .map (some q.b)⟩ := stV_at hs
  have hA := h.shOut hs
  have hB : All (blkC P (flat (stV S)) 159 :: mapC q.b q.n q.D :: ownC 9 q.iv (txtV q.items) :: (restC S i ++ cs)) w := hA.perm (List.Perm.cons _ (List.Perm.swap _ _ _))
  have hset : (stV S).set i (Qs.v ⟨q.nm, q.first, q.items, q.iv, q.b, q.n + 1, q.D⟩) = stV S := by
    have h1 : (stV S)[i]? = some (Qs.v ⟨q.nm, q.first, q.items, q.iv, q.b, q.n + 1, q.D⟩) := stV_at hs
    obtain ⟨hl, e⟩ := List.getElem?_eq_some_iff.1 h1
    rw [← e]; simp
  rw [hf]
  cases hh : Maps.has q.D (.string tx.data.toList) with
  | false =>
    by_cases h4 : Maps.size q.D = 4
    · refine (take_full hB h8 hq (by omega) (by omega) 5 nm tx n m htm hh h4).mono ?_
      rintro e w' ⟨rfl, A⟩
      exact DOut.nil (.takeFull i q hf hs hn hh h4) (All.shSame hs (A.perm (List.Perm.cons _ (List.Perm.swap _ _ _))))
    · cases hit : q.items with
      | nil =>
        have hq0 : (stV S)[i]? = some ⟨q.nm, (q.first : Int), .slice ao 0 c, .map (some q.b)⟩ := by rw [hq, hit]; rfl
        refine (take_bare hB h8 hq0 (by omega) (by omega) 5 nm tx n m htm hh h4 rfl).mono ?_
        rintro e w' ⟨rfl, A⟩
        exact DOut.nil (.takeEmpty i q hf hs hn (Or.inl ⟨hh, h4, hit⟩)) (All.shSame hs (A.perm (List.Perm.cons _ (List.Perm.swap _ _ _))))
      | cons item its =>
        have g4 := O.gs
        have hA2 := hA
        rw [hit] at hA2 o1 o2
        simp only [List.length_cons] at o1 o2
        refine (take_first hA2 h8 hq2 (by omega) (by omega) (by omega) 5 nm tx n m htm hh (by omega) (by omega)).mono ?_
        rintro e w' ⟨so, rfl, A⟩
        have D1 : Deed S nm tx n m 5 _ 0 _ [item] (i : Int) := .take i q 0 item hf hs hn (by rw [hit]; rfl) (Or.inr ⟨hh, by omega, rfl⟩)
        have e0 : (q.first : Int) + ((0 : Nat) : Int) = (q.first : Int) := by omega
        rw [e0] at D1
        refine DOut.some (items := [item]) D1 (All.shIn (q := ⟨q.nm, q.first, q.items, q.iv, q.b, q.n + 1, q.D.put (.string tx.data.toList) (.lit (.int .i64 ((q.first : Int) + 1)))⟩) hil ?_)
        have A2 := A.deep
        rw [← hit] at A2
        have e2 : (stV S).set i (Qs.v ⟨q.nm, q.first, q.items, q.iv, q.b, q.n + 1, q.D.put (.string tx.data.toList) (.lit (.int .i64 ((q.first : Int) + 1)))⟩) = stV S := hset
        rw [e2]
        exact A2
  | true =>
    obtain ⟨_, _, cc, hc1, hc2, hc3⟩ := O.gk _ hh
    by_cases he : cc = q.first + q.items.length
    · refine (take_done hB h8 hq (by omega) (by omega) 5 nm tx n m htm hh (by rw [hc1]; omega)).mono ?_
      rintro e w' ⟨rfl, A⟩
      exact DOut.nil (.takeEmpty i q hf hs hn (Or.inr ⟨hh, by rw [hc1]; omega⟩)) (All.shSame hs (A.perm (List.Perm.cons _ (List.Perm.swap _ _ _))))
    · obtain ⟨d, rfl⟩ : ∃ d, cc = q.first + d := ⟨cc - q.first, by omega⟩
      have hdl : d < q.items.length := by omega
      have hd : q.items[d]? = some q.items[d] := List.getElem?_eq_getElem hdl
      have hle : leftD q.D (.string tx.data.toList) = (q.first : Int) + (d : Int) := by rw [hc1]; omega
      refine (take_next hA h8 hq2 hd o1 (by omega) (by omega) 5 nm tx n m htm hh hle (by omega)).mono ?_
      rintro e w' ⟨so, rfl, A⟩
      refine DOut.some (items := [q.items[d]]) (.take i q d q.items[d] hf hs hn hd (Or.inl ⟨hh, hle⟩)) (All.shIn (q := ⟨q.nm, q.first, q.items, q.iv, q.b, q.n + 1, q.D.put (.string tx.data.toList) (.lit (.int .i64 ((q.first : Int) + (d : Int) + 1)))⟩) hil ?_)
      have e2 : (stV S).set i (Qs.v ⟨q.nm, q.first, q.items, q.iv, q.b, q.n + 1, q.D.put (.string tx.data.toList) (.lit (.int .i64 ((q.first : Int) + (d : Int) + 1)))⟩) = stV S := hset
      rw [e2]
      exact A.deep

theorem deed_read (hS : OkS N S) {i : Nat} {q : Qs} (hf : findN (stV S) nm = (i : Int)) (hs : S[i]? = some (some q)) (hn : q.nm = nm) (hn0 : 0 ≤ n) (hn1 : n ≤ 1099511627776) (hm0 : 1 ≤ m) (hm1 : m ≤ 8) (cs : List Comp) (w : World) (h : All (shL P S ++ cs) w) : Calls Tryz.prog 154 #[.pointer (some ⟨P, 0, none⟩), .int .i64 (findN (stV S) nm), opV 6 nm tx n m] w (DOut P S nm tx n m 6 cs) := by
  have h8 : (stV S).length = 8 := by rw [stV_len]; exact hS.len
  have O := hS.each i q hs
  have o1 := O.len
  have o2 := O.fin
  have hq2 : (stV S)[i]? = some ⟨q.nm, (q.first : Int), q.iv, .map (some q.b)⟩ := stV_at hs
  rw [hf]
  by_cases hc : (q.first : Int) + (q.items.length : Int) ≤ max n (q.first : Int)
  · refine (read_none (b := 0) (nb := 0) (h.shOut hs) h8 hq2 o1 (by omega) (by omega) 6 nm tx n m hn0 hn1 hc).mono ?_
    rintro e w' ⟨rfl, A⟩
    exact DOut.nil (.readNone i q hf hs hn hc) (All.shSame hs A)
  · obtain ⟨d, hd⟩ : ∃ d : Nat, max n (q.first : Int) = (q.first : Int) + (d : Int) := ⟨(max n (q.first : Int) - q.first).toNat, by omega⟩
    have hdl : d < q.items.length := by omega
    refine (read_some (b := 0) (nb := 0) (h.shOut hs) h8 hq2 o1 (by omega) (by omega) 6 nm tx n m hn0 hn1 hm0 hm1 hd hdl).mono ?_
    rintro e w' ⟨so, sc, rfl, A⟩
    refine DOut.some (items := (q.items.drop d).take m.toNat) (.read i q d hf hs hn hd hdl) (All.shSame hs ?_)
    exact (A.perm (List.Perm.cons _ (List.Perm.cons _ (List.Perm.swap _ _ _)))).deep

theorem deed_count (hS : OkS N S) {i : Nat} {q : Qs} (hf : findN (stV S) nm = (i : Int)) (hs : S[i]? = some (some q)) (hn : q.nm = nm) (cs : List Comp) (w : World) (h : All (shL P S ++ cs) w) : Calls Tryz.prog 155 #[.pointer (some ⟨P, 0, none⟩), .int .i64 (findN (stV S) nm), opV 7 nm tx n m] w (DOut P S nm tx n m 7 cs) := by
  have h8 : (stV S).length = 8 := by rw [stV_len]; exact hS.len
  obtain ⟨ao, c, eiv⟩ := iv_form h hs
  have hq : (stV S)[i]? = some ⟨q.nm, (q.first : Int), .slice ao q.items.length c, .map (some q.b)⟩ := by rw [stV_at hs, slV, Qs.v, eiv]
  rw [hf]
  refine (count_any (h.shOut hs) h8 hq 7 nm tx n m).mono ?_
  rintro e w' ⟨rfl, A⟩
  exact DOut.nil (.count i q hf hs hn) (All.shSame hs A)

theorem deed_list (hS : OkS N S) (at' : Int) (cs : List Comp) (w : World) (h : All (shL P S ++ cs) w) : Calls Tryz.prog 156 #[.pointer (some ⟨P, 0, none⟩), .int .i64 at', opV 8 nm tx n m] w (DOut P S nm tx n m 8 cs) := by
  have h8 : (stV S).length = 8 := by rw [stV_len]; exact hS.len
  have h' : All (blkC P (flat (stV S)) 159 :: (S.flatMap slC ++ cs)) w := h
  refine (list_any h' h8 at' 8 nm tx n m).mono ?_
  rintro e w' ⟨so, sc, rfl, A⟩
  refine DOut.some (items := nmsS (stV S)) .list ?_
  have A2 := A.perm (List.Perm.cons _ (List.perm_middle (l₁ := S.flatMap slC) (l₂ := cs)).symm)
  exact A2
end
end Go.Proofs.YtafickhhdemjnaaGreatDoor

namespace Go.Proofs.YtafickhhdemjnaaGreatDoor
open Go.RowKit
set_option linter.unusedVariables false

theorem ix1 (W : World) : (Instr.index 195 deedsV (.int .i64 1)).run Tryz.prog W = .ok (.agg #[fnV 149, .bool false]) W := by kernel_rfl
theorem ix2 (W : World) : (Instr.index 195 deedsV (.int .i64 2)).run Tryz.prog W = .ok (.agg #[fnV 150, .bool true]) W := by kernel_rfl
theorem ix3 (W : World) : (Instr.index 195 deedsV (.int .i64 3)).run Tryz.prog W = .ok (.agg #[fnV 151, .bool true]) W := by kernel_rfl
theorem ix4 (W : World) : (Instr.index 195 deedsV (.int .i64 4)).run Tryz.prog W = .ok (.agg #[fnV 152, .bool true]) W := by kernel_rfl
theorem ix5 (W : World) : (Instr.index 195 deedsV (.int .i64 5)).run Tryz.prog W = .ok (.agg #[fnV 153, .bool true]) W := by kernel_rfl
theorem ix6 (W : World) : (Instr.index 195 deedsV (.int .i64 6)).run Tryz.prog W = .ok (.agg #[fnV 154, .bool true]) W := by kernel_rfl
theorem ix7 (W : World) : (Instr.index 195 deedsV (.int .i64 7)).run Tryz.prog W = .ok (.agg #[fnV 155, .bool true]) W := by kernel_rfl
theorem ix8 (W : World) : (Instr.index 195 deedsV (.int .i64 8)).run Tryz.prog W = .ok (.agg #[fnV 156, .bool false]) W := by kernel_rfl

theorem sh_mem (P : Nat) (S : St) : blkC P (flat (stV S)) 159 ∈ shL P S := List.mem_cons_self

/-- An op that may be is done. -/
theorem done_any {N P : Nat} {S : St} (hS : OkS N S) (hN : N < 1152921504606846976) {k : Int} {nm tx : ByteArray} {n m : Int} (hk : chkA k nm.size tx.size n m = 0) {cs : List Comp} {w : World} (h : All (shL P S ++ cs) w) :
    Calls Tryz.prog 82 #[.pointer (some ⟨P, 0, none⟩), opV k nm tx n m] w (DOut P S nm tx n m k cs) := by
  have h8 : (stV S).length = 8 := by rw [stV_len]; exact hS.len
  obtain ⟨c1, c2, c3, c4, c5⟩ := chk_small hk
  obtain rfl | rfl | rfl | rfl | rfl | rfl | rfl | rfl : k = 1 ∨ k = 2 ∨ k = 3 ∨ k = 4 ∨ k = 5 ∨ k = 6 ∨ k = 7 ∨ k = 8 := by omega
  · have cc := chk_1 hk
    exact done_free (sh_mem P S) h8 nm tx n m (Or.inl rfl) ix1 (G := GD P S nm tx n m 1) (fun cs' w' h' => deed_make hS 1 cs' w' h' rfl (by omega)) h
  · have cc := chk_2 hk
    rcases find_cases hS nm (by omega) with ⟨hf, _⟩ | ⟨i, q, hf, hs, hn⟩
    · refine (done_none (sh_mem P S) h8 nm tx n m ix2 hf h).mono ?_
      rintro e w' ⟨rfl, A⟩
      exact DOut.nil (.none 2 (by omega) hf) A
    · exact done_needs (sh_mem P S) h8 nm tx n m (by simp) ix2 (by rw [hf]; omega) (G := GD P S nm tx n m 2) (fun cs' w' h' => deed_drop hS hf hs hn cs' w' h') h
  · have cc := chk_3 hk
    rcases find_cases hS nm (by omega) with ⟨hf, _⟩ | ⟨i, q, hf, hs, hn⟩
    · refine (done_none (sh_mem P S) h8 nm tx n m ix3 hf h).mono ?_
      rintro e w' ⟨rfl, A⟩
      exact DOut.nil (.none 3 (by omega) hf) A
    · exact done_needs (sh_mem P S) h8 nm tx n m (by simp) ix3 (by rw [hf]; omega) (G := GD P S nm tx n m 3) (fun cs' w' h' => deed_push hS hf hs hn cs' w' h') h
  · have cc := chk_4 hk
    rcases find_cases hS nm (by omega) with ⟨hf, _⟩ | ⟨i, q, hf, hs, hn⟩
    · refine (done_none (sh_mem P S) h8 nm tx n m ix4 hf h).mono ?_
      rintro e w' ⟨rfl, A⟩
      exact DOut.nil (.none 4 (by omega) hf) A
    · exact done_needs (sh_mem P S) h8 nm tx n m (by simp) ix4 (by rw [hf]; omega) (G := GD P S nm tx n m 4) (fun cs' w' h' => deed_trim hS hN hf hs hn (by omega) (by omega) cs' w' h') h
  · have cc := chk_5 hk
    rcases find_cases hS nm (by omega) with ⟨hf, _⟩ | ⟨i, q, hf, hs, hn⟩
    · refine (done_none (sh_mem P S) h8 nm tx n m ix5 hf h).mono ?_
      rintro e w' ⟨rfl, A⟩
      exact DOut.nil (.none 5 (by omega) hf) A
    · exact done_needs (sh_mem P S) h8 nm tx n m (by simp) ix5 (by rw [hf]; omega) (G := GD P S nm tx n m 5) (fun cs' w' h' => deed_take hS hN hf hs hn (by omega) cs' w' h') h
  · have cc := chk_6 hk
    rcases find_cases hS nm (by omega) with ⟨hf, _⟩ | ⟨i, q, hf, hs, hn⟩
    · refine (done_none (sh_mem P S) h8 nm tx n m ix6 hf h).mono ?_
      rintro e w' ⟨rfl, A⟩
      exact DOut.nil (.none 6 (by omega) hf) A
    · exact done_needs (sh_mem P S) h8 nm tx n m (by simp) ix6 (by rw [hf]; omega) (G := GD P S nm tx n m 6) (fun cs' w' h' => deed_read hS hf hs hn (by omega) (by omega) (by omega) (by omega) cs' w' h') h
  · have cc := chk_7 hk
    rcases find_cases hS nm (by omega) with ⟨hf, _⟩ | ⟨i, q, hf, hs, hn⟩
    · refine (done_none (sh_mem P S) h8 nm tx n m ix7 hf h).mono ?_
      rintro e w' ⟨rfl, A⟩
      exact DOut.nil (.none 7 (by omega) hf) A
    · exact done_needs (sh_mem P S) h8 nm tx n m (by simp) ix7 (by rw [hf]; omega) (G := GD P S nm tx n m 7) (fun cs' w' h' => deed_count hS hf hs hn cs' w' h') h
  · exact done_free (sh_mem P S) h8 nm tx n m (Or.inr rfl) ix8 (G := GD P S nm tx n m 8) (fun cs' w' h' => deed_list hS _ cs' w' h') h

/-- The shelf stays as it should. -/
theorem deed_ok {N : Nat} {S S' : St} (hS : OkS N S) (hT : ∀ (i : Nat) (q : Qs), S[i]? = some (some q) → Maps.Tidy q.D) {k : Int} {nm tx : ByteArray} {n m c x j : Int} {items : List ByteArray} (hk : chkA k nm.size tx.size n m = 0) (h : Deed S nm tx n m k S' c x items j) : OkS (N + 1) S' := by
  have up : OkS (N + 1) S := ⟨hS.len, fun i q hq => by
    have O := hS.each i q hq
    exact ⟨O.nm0, O.nm16, O.len, O.small, O.fin, O.gs, O.gk, Nat.le_succ_of_le O.cn⟩, hS.one⟩
  -- one slot is turned, its name stays
  have turn : ∀ (i : Nat) (q q' : Qs), S[i]? = some (some q) → q'.nm = q.nm → OkQ (N + 1) q' → OkS (N + 1) (S.set i (some q')) := by
    intro i q q' hq hnm hO
    have hil : i < S.length := (List.getElem?_eq_some_iff.1 hq).1
    refine ⟨by rw [List.length_set]; exact hS.len, fun a p hp => ?_, fun a b p p' hp hp' he => ?_⟩
    · rw [List.getElem?_set] at hp
      split at hp
      · (try rw [if_pos hil] at hp)
        simp only [Option.some.injEq] at hp
        subst hp
        exact hO
      · exact up.each a p hp
    · rw [List.getElem?_set] at hp hp'
      split at hp <;> split at hp'
      · omega
      · (try rw [if_pos hil] at hp)
        simp only [Option.some.injEq] at hp
        subst hp
        rename_i h1 _
        rw [← h1]
        exact hS.one i b q p' hq hp' (by rw [← hnm]; exact he)
      · (try rw [if_pos hil] at hp')
        simp only [Option.some.injEq] at hp'
        subst hp'
        rename_i _ h1
        rw [← h1]
        exact hS.one a i p q hp hq (by rw [he, hnm])
      · exact hS.one a b p p' hp hp' he
  cases h with
  | none _ _ => exact up
  | there _ => exact up
  | full _ _ => exact up
  | make f b h hf hs =>
    have cc := chk_1 hk
    have hfl : f < S.length := (List.getElem?_eq_some_iff.1 hs).1
    have hno : ∀ (i : Nat) (q : Qs), S[i]? = some (some q) → q.nm ≠ nm := by
      rcases find_cases hS nm (by omega) with ⟨_, h2⟩ | ⟨i, q, h2, _⟩
      · exact h2
      · rw [h] at h2; omega
    refine ⟨by rw [List.length_set]; exact hS.len, fun a p hp => ?_, fun a b' p p' hp hp' he => ?_⟩
    · rw [List.getElem?_set] at hp
      split at hp
      · (try rw [if_pos hfl] at hp)
        simp only [Option.some.injEq] at hp
        subst hp
        refine ⟨by simp only; omega, by simp only; omega, by simp, by simp, by simp, by simp [Maps.size], fun x hx => ?_, by simp⟩
        simp [Maps.has] at hx
      · exact up.each a p hp
    · rw [List.getElem?_set] at hp hp'
      split at hp <;> split at hp'
      · omega
      · (try rw [if_pos hfl] at hp)
        simp only [Option.some.injEq] at hp
        subst hp
        exact absurd he.symm (hno b' p' hp')
      · (try rw [if_pos hfl] at hp')
        simp only [Option.some.injEq] at hp'
        subst hp'
        exact absurd he (hno a p hp)
      · exact hS.one a b' p p' hp hp' he
  | drop i q h hs hn =>
    refine ⟨by rw [List.length_set]; exact hS.len, fun a p hp => ?_, fun a b' p p' hp hp' he => ?_⟩
    · rw [List.getElem?_set] at hp
      split at hp
      · split at hp <;> simp at hp
      · exact up.each a p hp
    · rw [List.getElem?_set] at hp hp'
      split at hp
      · split at hp <;> simp at hp
      · split at hp'
        · split at hp' <;> simp at hp'
        · exact hS.one a b' p p' hp hp' he
  | pushFull _ _ _ _ _ _ => exact up
  | push i q iv' h hs hn hl hf =>
    have cc := chk_3 hk
    have O := up.each i q hs
    refine turn i q _ hs rfl ⟨O.nm0, O.nm16, ?_, ?_, ?_, O.gs, ?_, O.cn⟩
    · simp only [List.length_append, List.length_singleton]; omega
    · intro t ht
      rcases List.mem_append.1 ht with ht | ht
      · exact O.small t ht
      · simp at ht; subst ht; omega
    · simp only [List.length_append, List.length_singleton]; omega
    · intro y hy
      obtain ⟨g1, g2, c', g3, g4, g5⟩ := O.gk y hy
      exact ⟨g1, g2, c', g3, g4, by simp only [List.length_append, List.length_singleton]; omega⟩
  | trimNone _ _ _ _ _ _ => exact up
  | trim i q iv' D' d h hs hn hd h0 hl ht =>
    have O := up.each i q hs
    have o2 := O.fin
    refine turn i q _ hs rfl ⟨O.nm0, O.nm16, ?_, ?_, ?_, by rw [ht.size]; exact O.gs, ?_, O.cn⟩
    · have := O.len; simp only [List.length_drop]; omega
    · intro t htm
      exact O.small t (List.mem_of_mem_drop htm)
    · simp only [List.length_drop]; omega
    · intro y hy
      rw [ht.has] at hy
      obtain ⟨g1, g2, c', g3, g4, g5⟩ := O.gk y hy
      have hv := ht.val _ hy
      rw [if_neg (by simp)] at hv
      refine ⟨g1, g2, max c' (q.first + d), by rw [hv, g3]; omega, by simp only; omega, ?_⟩
      simp only [List.length_drop]
      omega
  | takeFull _ _ _ _ _ _ _ => exact up
  | takeEmpty _ _ _ _ _ _ => exact up
  | take i q d item h hs hn hd hh =>
    have cc := chk_5 hk
    have O := up.each i q hs
    have o := hS.each i q hs
    have hdl : d < q.items.length := (List.getElem?_eq_some_iff.1 hd).1
    have ht := hT i q hs
    have hkl : WideAt.IsKeyLit (.string tx.data.toList) := lawS.key (WideMaps.keyOf_string_mk Tryz.underlying9 (by unfold maxLen; omega))
    have hlen : tx.data.toList.length = tx.size := str_len tx
    refine turn i q _ hs rfl ⟨O.nm0, O.nm16, O.len, O.small, O.fin, ?_, ?_, by have := o.cn; simp only; omega⟩
    · simp only
      rw [Maps.size_put ht]
      have g4 := O.gs
      rcases hh with ⟨h1, _⟩ | ⟨h1, h2, _⟩
      · rw [if_pos h1]; exact g4
      · rw [if_neg (by rw [h1]; simp)]; omega
    · intro y hy
      simp only at hy ⊢
      by_cases e : Lit.string y = Lit.string tx.data.toList
      · have ey : y = tx.data.toList := by injection e
        subst ey
        rw [leftD_put_same ht.isMap hkl]
        exact ⟨by omega, by omega, q.first + d + 1, by omega, by omega, by omega⟩
      · rw [Maps.has_put_other e] at hy
        rw [leftD_put_other e]
        exact O.gk y hy
  | readNone _ _ _ _ _ _ => exact up
  | read _ _ _ _ _ _ _ _ => exact up
  | count _ _ _ _ _ => exact up
  | list => exact up

theorem tidy_of {P : Nat} {S : St} {cs : List Comp} {w : World} (h : All (shL P S ++ cs) w) (i : Nat) (q : Qs) (hq : S[i]? = some (some q)) : Maps.Tidy q.D := by
  have h2 : w.ownsMap Tryz.prog 9 rE q.b q.n q.D := (h.shOut hq).tail.tail.1.2.1
  exact h2.tidy lawS
end Go.Proofs.YtafickhhdemjnaaGreatDoor

namespace Go.Proofs.YtafickhhdemjnaaGreatDoor
open Go.RowKit
set_option linter.unusedVariables false

set_option maxRecDepth 1000000 in
/-- Do, of an op that may be. -/
theorem Do_any {N P : Nat} {S : St} (hS : OkS N S) (hN : N < 1152921504606846976) {cs : List Comp} {w : World} (ht : ∀ w', All (shL P S ++ cs) w' → Tab w') {k : Int} {nm tx : ByteArray} {n m : Int} (hk : chkA k nm.size tx.size n m = 0) (h : All (shL P S ++ cs) w) :
    Calls Tryz.prog 122 #[.pointer (some ⟨P, 0, none⟩), opV k nm tx n m] w fun e w' => ∃ S' c x items j so sc, e = .returned (.tuple #[resV c x (.slice so (List.length items) sc), .int .i64 j, .int .i64 0]) ∧ Deed S nm tx n m k S' c x items j ∧ All (shL P S' ++ (ownC 9 (.slice so items.length sc) (txtV items) :: cs)) w' := by
  have T := hid (done_start h nm tx n m k)
  have HK := hid hk
  have HS := hid hS
  have hT : Tab ((w.alloc (opB k nm tx n m)).alloc (.cells #[.int .i64 0, .int .i64 0, .slice none 0 0] 56)) := ht _ T.out.all.tail.tail
  have HT := hid hT
  clear h hk hT
  go_enter Tryz.func122, Tryz.ntmps122
  go_wp2_with fail
  refine (check_any HT.out k nm tx n m).mono ?_
  rw [HK.out]
  rintro e w2 ⟨rfl, B2⟩
  have T2 := hid (T.out.next B2)
  clear B2 T HT
  have o0 := T2.out.o0
  have o1 := T2.out.o1
  have o2 := T2.out.o2
  have o3 := T2.out.o3
  have o4 := T2.out.o4
  go_wp2_with fail
  refine (done_any HS.out hN HK.out T2.out.handed2).mono ?_
  rintro e w5 ⟨c, x, j, so, sn, sc, post, rfl, hG, A5⟩
  have A6 := hid (handed_back2 A5)
  have HG := hid hG
  clear A5 hG T2 o0 o1 o2 o3 o4
  have A7 := hid ((A6.out.setR (.int .i64 c) (.int .i64 x) (.slice so sn sc)).alloc (.cells #[.int .i64 c, .int .i64 x, .slice so sn sc] 56))
  have hR : w.heap.size + 1 < w5.heap.size := A6.out.1.2.2 _ (by simp [blkC])
  have r0 := A6.out.r0
  have r1 := A6.out.r1
  have r2 := A6.out.r2
  have g0 := A6.out.rf 0
  have g1 := A6.out.rf 1
  have g2 := A6.out.rf 2
  clear A6
  go_wp2
  generalize (((w5.setCell ⟨w.heap.size + 1, 0, none⟩ (.int .i64 c)).setCell ⟨w.heap.size + 1, 1, none⟩ (.int .i64 x)).setCell ⟨w.heap.size + 1, 2, none⟩ (.slice so sn sc)).alloc (.cells #[.int .i64 c, .int .i64 x, .slice so sn sc] 56) = w6 at A7 ⊢
  clear r0 r1 r2
  have r0 := A7.out.r0
  have r1 := A7.out.r1
  have r2 := A7.out.r2
  refine bodyPost_ret (v := .tuple #[resV c x (.slice so sn sc), .int .i64 j, .int .i64 0]) (by simp only [results, Tryz.f122]; go_simp) rfl ?_
  obtain ⟨S', items, so', sc', hv, rfl, hD⟩ := HG.out
  have A8 : All (shL P S' ++ (ownC 9 (.slice so sn sc) (txtV items) :: cs)) w6 := by simpa using A7.out.tail.tail
  rw [hv] at A8 ⊢
  exact ⟨S', c, x, items, j, so', sc', rfl, hD, A8⟩
set_option maxRecDepth 1000000 in
/-- Do, of an op that may not be. -/
theorem Do_bad {P : Nat} {cs : List Comp} {w : World} (hT : Tab w) {k : Int} {nm tx : ByteArray} {n m : Int} (hk : chkA k nm.size tx.size n m ≠ 0) (h : All cs w) :
    Calls Tryz.prog 122 #[.pointer (some ⟨P, 0, none⟩), opV k nm tx n m] w fun e w' => e = .returned (.tuple #[resV 0 0 (.slice none 0 0), .int .i64 0, .int .i64 (chkA k nm.size tx.size n m)]) ∧ All cs w' := by
  have H1 := hid ((h.alloc (opB k nm tx n m)).addBlk [.int .i64 0, .int .i64 0, .slice none 0 0] 56)
  have hsz : (w.alloc (opB k nm tx n m)).heap.size = w.heap.size + 1 := by simp
  rw [hsz] at H1
  have HK := hid hk
  have HT := hid (hT.below (b2 (ba w (opB k nm tx n m)) (ba (w.alloc (opB k nm tx n m)) (.cells [Value.int .i64 0, .int .i64 0, .slice none 0 0].toArray 56))))
  clear h hk hT hsz
  go_enter Tryz.func122, Tryz.ntmps122
  go_wp2_with fail
  refine (check_any HT.out k nm tx n m).mono ?_
  rintro e w2 ⟨rfl, B2⟩
  have H2 := hid (H1.out.later B2)
  have hne := HK.out
  clear B2 H1 HT HK
  generalize hck : chkA k nm.size tx.size n m = ck at hne ⊢
  have HCK := hid hck
  clear hck
  have e1 : (ck != 0) = true := by simpa using hne
  clear hne
  have r0 := H2.out.r0
  have r1 := H2.out.r1
  have r2 := H2.out.r2
  have g0 := H2.out.rf 0
  have g1 := H2.out.rf 1
  have g2 := H2.out.rf 2
  have AE := hid (H2.out.setR (.int .i64 0) (.int .i64 0) (.slice none 0 0))
  clear H2
  go_wp2
  generalize (((w2.setCell ⟨w.heap.size + 1, 0, none⟩ (.int .i64 0)).setCell ⟨w.heap.size + 1, 1, none⟩ (.int .i64 0)).setCell ⟨w.heap.size + 1, 2, none⟩ (.slice none 0 0)) = we at AE ⊢
  clear r0 r1 r2
  have r0 := AE.out.r0
  have r1 := AE.out.r1
  have r2 := AE.out.r2
  refine bodyPost_ret (v := .tuple #[resV 0 0 (.slice none 0 0), .int .i64 0, .int .i64 ck]) (by simp only [results, Tryz.f122]; go_simp) rfl ?_
  exact ⟨by rw [HCK.out], AE.out.tail⟩

set_option maxHeartbeats 1600000 in
set_option maxRecDepth 1000000 in
theorem sameTexts_q {w : World} {s t : Value} {l : List ByteArray} (hs : Txts w s l) (ht : Txts w t l) (hlen : l.length ≤ 140737488355328) :
    Calls Tryz.prog 55 #[s, t] w fun e w' => e = .returned (.bool true) ∧ ∃ q, w' = w.drewN q := by
  obtain ⟨ao, c, hf⟩ := hs.form
  obtain ⟨ao', c', hf'⟩ := ht.form
  subst hf hf'
  have HS := hid hs
  have HT := hid ht
  clear hs ht
  go_enter Tryz.func55, Tryz.ntmps55
  go_wp2
  go_loopw [5] (fun iv wr => ∃ (k q : Nat), k ≤ l.length ∧ iv = .int .i64 (k : Int) ∧ wr = w.drewN q) (fun iv _ => l.length - (intOf iv).toNat)
  case atStart => exact ⟨0, 0, by omega, rfl, rfl⟩
  case round =>
    obtain ⟨k, q, hk, rfl, rfl⟩ := hrel
    by_cases hlt : k < l.length
    · obtain ⟨g, o, rfl, _, h1⟩ := HS.out.at hlt
      obtain ⟨g', o', rfl, _, h2⟩ := HT.out.at hlt
      generalize l[k] = x at h1 h2
      have hb : (x.toList == x.toList) = true := by simp
      go_wp2
      go_region
      go_wp2
      go_roundw
      case rel => exact ⟨k + 1, q + 1, by omega, by go_num, by simp⟩
      case measure => simp [intOf]; omega
    · go_wp2
      go_ret
      exact ⟨rfl, _, rfl⟩

/-- A part of a list of texts. -/
theorem cut_txts {w : World} {ao : Option Addr} {c a b : Nat} {l : List ByteArray} (h : Txts w (.slice ao l.length c) l) (hb : a + b ≤ l.length) (hb0 : 0 < b) (x y : Int) (hx : x = (a : Int)) (hy : y = (a : Int) + (b : Int)) :
    ∃ ao' c', (∀ w' : World, (Instr.slice 54 (.slice ao l.length c) (some (.int .i64 x)) (some (.int .i64 y)) none).run Tryz.prog w' = .ok (.slice ao' b c') w') ∧ Txts w (.slice ao' b c') ((l.drop a).take b) := by
  obtain ⟨ao', c', e, hc, hx'⟩ := h
  simp only [Value.slice.injEq] at e
  obtain ⟨rfl, _, rfl⟩ := e
  rcases hx' with rfl | ⟨g, o, rfl, hg, hcell⟩
  · simp at hb; omega
  · have hl : ((l.drop a).take b).length = b := by simp; omega
    refine ⟨some ⟨g, o + a, none⟩, c - a, fun w' => ?_, ⟨_, _, by rw [hl], by omega, Or.inr ⟨g, o + a, rfl, hg, fun j hj => ?_⟩⟩⟩
    · rw [run_slice_lh w' 54 (some ⟨g, o, none⟩) l.length c (by kernel_rfl) .i64 .i64 x y (by omega) (by omega) (by omega)]
      have hs : (sizeOf (Tryz.prog.elem 54)).run Tryz.prog w' = .ok 1 w' := by kernel_rfl
      have e1 : x.toNat = a := by omega
      have e2 : y.toNat = a + b := by omega
      rw [hs, e1, e2]
      have hne : c ≠ a := by omega
      simp [sliced, Result.andThen, Addr.add_lit, hne]
    · have hj' : a + j < l.length := by rw [hl] at hj; omega
      have := hcell (a + j) hj'
      rw [Nat.add_assoc, this]
      simp

end Go.Proofs.YtafickhhdemjnaaGreatDoor

namespace Go.Proofs.YtafickhhdemjnaaGreatDoor
open Go.RowKit
set_option linter.unusedVariables false

/-- A list of lists of bytes, as it is read. -/
def ReadsL (w : World) (v : Value) (L : List (List UInt8)) : Prop := ∃ ao c, v = .slice ao L.length c ∧ L.length ≤ c ∧ ∀ j (h : j < L.length), ∃ g u, ao = some ⟨g, 0, none⟩ ∧ w.cell? ⟨g, j, none⟩ = some u ∧ g < w.heap.size ∧ Reads w u L[j]
theorem ReadsL.below {w w' : World} {v : Value} {L : List (List UInt8)} (h : ReadsL w v L) (hb : Below w.heap.size w w') : ReadsL w' v L := by
  obtain ⟨ao, c, rfl, hc, hr⟩ := h
  refine ⟨ao, c, rfl, hc, fun j hj => ?_⟩
  obtain ⟨g, u, e, h1, h2, h3⟩ := hr j hj
  obtain ⟨_, _, _, b4, b5⟩ := hb
  have h4 : w'.heap[g]? = w.heap[g]? := b5 g h2
  refine ⟨g, u, e, ?_, Nat.lt_of_lt_of_le h2 b4, h3.kept b4 (fun k hk => b5 k (h3.block k hk))⟩
  rw [← h1]
  simp only [World.cell?, h4]
theorem readsL_of {w : World} {so : Option Addr} {n sc : Nat} {ls : BL} {cs : List Comp} (h : All (slsL (.slice so n sc) ls ++ cs) w) : ReadsL w (.slice so n sc) (ls.map Prod.snd) := by
  have hrow : w.ownsRow 0 76 1 (.slice so n sc) (ls.map Prod.fst).length (ls.map Prod.fst) := (h.mem (c := ownC 76 (.slice so n sc) (ls.map Prod.fst)) (by simp [slsL])).2.1
  have hl := owns_len hrow
  rw [List.length_map] at hl
  refine ⟨so, sc, by rw [List.length_map, hl.1], by rw [List.length_map]; omega, fun j hj => ?_⟩
  rw [List.length_map] at hj
  obtain ⟨g, e, hc, _⟩ := owns_at hrow (k := j) (u := ls[j].1) (by rw [List.getElem?_map, List.getElem?_eq_getElem hj]; rfl)
  have hg : g < w.heap.size := (h.mem (c := ownC 76 (.slice so n sc) (ls.map Prod.fst)) (by simp [slsL])).2.2 g (by rw [e]; simp [ownC, Value.ownBlock])
  refine ⟨g, ls[j].1, e, hc, hg, ?_⟩
  have hp := (h.mem (c := ownC 5 ls[j].1 (cellsB ls[j].2)) (by
    refine List.mem_append_left _ (List.mem_cons_of_mem _ ?_)
    exact List.mem_map.2 ⟨ls[j], List.getElem_mem hj, rfl⟩)).2.1
  have hr : w.ownsRow 0 5 1 ls[j].1 (cellsB ls[j].2).length (cellsB ls[j].2) := hp
  have hcl : (cellsB ls[j].2).length = ls[j].2.length := by simp [cellsB]
  rw [hcl] at hr
  simpa using Reads.of_owns hr

end Go.Proofs.YtafickhhdemjnaaGreatDoor

namespace Go.Proofs.YtafickhhdemjnaaGreatDoor
open Go.RowKit
set_option linter.unusedVariables false

/-- A kind that changes nothing. -/
def isQ (k : Int) : Bool := decide (6 ≤ k ∧ k ≤ 8)
set_option maxRecDepth 1000000 in
/-- Ask, of a query. -/
theorem Ask_any {N P : Nat} {S : St} (hS : OkS N S) (hN : N < 1152921504606846976) {cs : List Comp} {w : World} (ht : ∀ w', All (shL P S ++ cs) w' → Tab w') {k : Int} {nm tx : ByteArray} {n m : Int} (hk : chkA k nm.size tx.size n m = 0) (hq : isQ k = true) (h : All (shL P S ++ cs) w) :
    Calls Tryz.prog 50 #[.pointer (some ⟨P, 0, none⟩), opV k nm tx n m] w fun e w' => ∃ S' c x items j so sc, e = .returned (.tuple #[resV c x (.slice so (List.length items) sc), .int .i64 0]) ∧ Deed S nm tx n m k S' c x items j ∧ All (shL P S' ++ (ownC 9 (.slice so items.length sc) (txtV items) :: cs)) w' := by
  have T := hid (done_start h nm tx n m k)
  have HK := hid hk
  have HQ := hid hq
  have HS := hid hS
  have hT : Tab ((w.alloc (opB k nm tx n m)).alloc (.cells #[.int .i64 0, .int .i64 0, .slice none 0 0] 56)) := ht _ T.out.all.tail.tail
  have HT := hid hT
  clear h hk hT hq
  go_enter Tryz.func50, Tryz.ntmps50
  go_wp2_with fail
  refine (check_any HT.out k nm tx n m).mono ?_
  rw [HK.out]
  rintro e w2 ⟨rfl, B2⟩
  have T2 := hid (T.out.next B2)
  clear B2 T HT
  have o0 := T2.out.o0
  have o1 := T2.out.o1
  have o2 := T2.out.o2
  have o3 := T2.out.o3
  have o4 := T2.out.o4
  go_wp2_with fail
  refine (query_any k).mono ?_
  rw [show decide (6 ≤ k ∧ k ≤ 8) = true from HQ.out]
  rintro e w3 ⟨rfl, rfl⟩
  go_wp2_with fail
  refine (done_any HS.out hN HK.out T2.out.handed2).mono ?_
  rintro e w5 ⟨c, x, j, so, sn, sc, post, rfl, hG, A5⟩
  have A6 := hid (handed_back2 A5)
  have HG := hid hG
  clear A5 hG T2 o0 o1 o2 o3 o4
  have A7 := hid ((A6.out.setR (.int .i64 c) (.int .i64 x) (.slice so sn sc)).alloc (.cells #[.int .i64 c, .int .i64 x, .slice so sn sc] 56))
  have hR : w.heap.size + 1 < w5.heap.size := A6.out.1.2.2 _ (by simp [blkC])
  have r0 := A6.out.r0
  have r1 := A6.out.r1
  have r2 := A6.out.r2
  have g0 := A6.out.rf 0
  have g1 := A6.out.rf 1
  have g2 := A6.out.rf 2
  clear A6
  go_wp2
  generalize (((w5.setCell ⟨w.heap.size + 1, 0, none⟩ (.int .i64 c)).setCell ⟨w.heap.size + 1, 1, none⟩ (.int .i64 x)).setCell ⟨w.heap.size + 1, 2, none⟩ (.slice so sn sc)).alloc (.cells #[.int .i64 c, .int .i64 x, .slice so sn sc] 56) = w6 at A7 ⊢
  clear r0 r1 r2
  have r0 := A7.out.r0
  have r1 := A7.out.r1
  have r2 := A7.out.r2
  refine bodyPost_ret (v := .tuple #[resV c x (.slice so sn sc), .int .i64 0]) (by simp only [results, Tryz.f50]; go_simp) rfl ?_
  obtain ⟨S', items, so', sc', hv, rfl, hD⟩ := HG.out
  have A8 : All (shL P S' ++ (ownC 9 (.slice so sn sc) (txtV items) :: cs)) w6 := by simpa using A7.out.tail.tail
  rw [hv] at A8 ⊢
  exact ⟨S', c, x, items, j, so', sc', rfl, hD, A8⟩
set_option maxRecDepth 1000000 in
/-- Ask, of an op that may not be. -/
theorem Ask_bad {P : Nat} {cs : List Comp} {w : World} (hT : Tab w) {k : Int} {nm tx : ByteArray} {n m : Int} (hk : chkA k nm.size tx.size n m ≠ 0) (h : All cs w) :
    Calls Tryz.prog 50 #[.pointer (some ⟨P, 0, none⟩), opV k nm tx n m] w fun e w' => e = .returned (.tuple #[resV 0 0 (.slice none 0 0), .int .i64 (chkA k nm.size tx.size n m)]) ∧ All cs w' := by
  have H1 := hid ((h.alloc (opB k nm tx n m)).addBlk [.int .i64 0, .int .i64 0, .slice none 0 0] 56)
  have hsz : (w.alloc (opB k nm tx n m)).heap.size = w.heap.size + 1 := by simp
  rw [hsz] at H1
  have HK := hid hk
  have HT := hid (hT.below (b2 (ba w (opB k nm tx n m)) (ba (w.alloc (opB k nm tx n m)) (.cells [Value.int .i64 0, .int .i64 0, .slice none 0 0].toArray 56))))
  clear h hk hT hsz
  go_enter Tryz.func50, Tryz.ntmps50
  go_wp2_with fail
  refine (check_any HT.out k nm tx n m).mono ?_
  rintro e w2 ⟨rfl, B2⟩
  have H2 := hid (H1.out.later B2)
  have hne := HK.out
  clear B2 H1 HT HK
  generalize hck : chkA k nm.size tx.size n m = ck at hne ⊢
  have HCK := hid hck
  clear hck
  have e1 : (ck != 0) = true := by simpa using hne
  clear hne
  have r0 := H2.out.r0
  have r1 := H2.out.r1
  have r2 := H2.out.r2
  have g0 := H2.out.rf 0
  have g1 := H2.out.rf 1
  have g2 := H2.out.rf 2
  have AE := hid (H2.out.setR (.int .i64 0) (.int .i64 0) (.slice none 0 0))
  clear H2
  go_wp2
  generalize (((w2.setCell ⟨w.heap.size + 1, 0, none⟩ (.int .i64 0)).setCell ⟨w.heap.size + 1, 1, none⟩ (.int .i64 0)).setCell ⟨w.heap.size + 1, 2, none⟩ (.slice none 0 0)) = we at AE ⊢
  clear r0 r1 r2
  have r0 := AE.out.r0
  have r1 := AE.out.r1
  have r2 := AE.out.r2
  refine bodyPost_ret (v := .tuple #[resV 0 0 (.slice none 0 0), .int .i64 ck]) (by simp only [results, Tryz.f50]; go_simp) rfl ?_
  exact ⟨by rw [HCK.out], AE.out.tail⟩


set_option maxRecDepth 1000000 in
/-- Ask, of an op that changes something. -/
theorem Ask_not {P : Nat} {cs : List Comp} {w : World} (hT : Tab w) {k : Int} {nm tx : ByteArray} {n m : Int} (hk : chkA k nm.size tx.size n m = 0) (hq : isQ k = false) (h : All cs w) :
    Calls Tryz.prog 50 #[.pointer (some ⟨P, 0, none⟩), opV k nm tx n m] w fun e w' => e = .returned (.tuple #[resV 0 0 (.slice none 0 0), .int .i64 56]) ∧ All cs w' := by
  have T := hid (done_start (pre := []) (cs := cs) (by simpa using h) nm tx n m k)
  have HK := hid hk
  have HQ := hid hq
  have HT := hid (hT.below (b2 (ba w (opB k nm tx n m)) (ba (w.alloc (opB k nm tx n m)) (.cells #[Value.int .i64 0, .int .i64 0, .slice none 0 0] 56))))
  clear h hk hT hq
  go_enter Tryz.func50, Tryz.ntmps50
  go_wp2_with fail
  refine (check_any HT.out k nm tx n m).mono ?_
  rw [HK.out]
  rintro e w2 ⟨rfl, B2⟩
  have T2 := hid (T.out.next B2)
  clear B2 T HT
  have o0 := T2.out.o0
  go_wp2_with fail
  refine (query_any k).mono ?_
  rw [show decide (6 ≤ k ∧ k ≤ 8) = false from HQ.out]
  rintro e w3 ⟨rfl, rfl⟩
  have H2 := hid T2.out.all
  clear o0 T2
  have r0 := H2.out.r0
  have r1 := H2.out.r1
  have r2 := H2.out.r2
  have g0 := H2.out.rf 0
  have g1 := H2.out.rf 1
  have g2 := H2.out.rf 2
  have AE := hid (H2.out.setR (.int .i64 0) (.int .i64 0) (.slice none 0 0))
  clear H2
  go_wp2
  generalize (((w3.setCell ⟨w.heap.size + 1, 0, none⟩ (.int .i64 0)).setCell ⟨w.heap.size + 1, 1, none⟩ (.int .i64 0)).setCell ⟨w.heap.size + 1, 2, none⟩ (.slice none 0 0)) = we at AE ⊢
  clear r0 r1 r2
  have r0 := AE.out.r0
  have r1 := AE.out.r1
  have r2 := AE.out.r2
  refine bodyPost_ret (v := .tuple #[resV 0 0 (.slice none 0 0), .int .i64 56]) (by simp only [results, Tryz.f50]; go_simp) rfl ?_
  exact ⟨rfl, by simpa using AE.out.tail.tail⟩
end Go.Proofs.YtafickhhdemjnaaGreatDoor

namespace Go.Proofs.YtafickhhdemjnaaGreatDoor
open Go.RowKit
set_option linter.unusedVariables false

theorem own_of {P i : Nat} {S : St} {q : Qs} {cs : List Comp} {w : World} (h : All (shL P S ++ cs) w) (hs : S[i]? = some (some q)) : w.ownsMap Tryz.prog 9 rE q.b q.n q.D := (h.shOut hs).2.2.2.2.1.2.1
theorem slB_inj {N N' : Nat} {q q' : Qs} (ho : OkQ N q) (ho' : OkQ N' q') {w w' : World} (hm : w.ownsMap Tryz.prog 9 rE q.b q.n q.D) (hm' : w'.ownsMap Tryz.prog 9 rE q'.b q'.n q'.D) (h : slB (some q) = slB (some q')) : q.nm = q'.nm ∧ q.first = q'.first ∧ q.items = q'.items ∧ grS q.D = grS q'.D := by
  have a1 := ho.fin
  have a2 := ho'.fin
  have b1 := ho.gs
  have b2 := ho'.gs
  have c1 := grS_len hm
  have c2 := grS_len hm'
  exact slot_inj ho.nm16 ho'.nm16 (by omega) (by omega) ho.len ho'.len ho.small ho'.small (by omega) (by omega) (ho.okG hm) (ho'.okG hm') h
theorem slB_len {N P i : Nat} {S : St} (hS : OkS N S) {cs : List Comp} {w : World} (h : All (shL P S ++ cs) w) {s : Option Qs} (hs : S[i]? = some s) : (slB s).length ≤ 2197 := by
  cases s with
  | none => simp [slB]
  | some q =>
    have ho := hS.each i q hs
    have hm := own_of h hs
    have a1 := ho.fin
    have b1 := ho.gs
    have c1 := grS_len hm
    exact slot_len ho.nm16 (by omega) ho.len ho.small (by omega) (ho.okG hm)
theorem set_slots {S : St} {f i : Nat} {u s s' : Option Qs} (hne : ∀ s0, S[f]? = some s0 → slB s0 ≠ slB u) (hs : S[i]? = some s) (hs' : (S.set f u)[i]? = some s') : slB s = slB s' ↔ (i : Int) ≠ (f : Int) := by
  by_cases e : f = i
  · subst e
    have hf : f < S.length := (List.getElem?_eq_some_iff.1 hs).1
    rw [List.getElem?_set_self hf] at hs'
    cases hs'
    constructor
    · exact fun h => absurd h (hne s hs)
    · exact fun h => absurd rfl h
  · rw [List.getElem?_set_ne e, hs] at hs'
    cases hs'
    exact ⟨fun _ h => e (by omega), fun _ => rfl⟩
theorem same_slots {S : St} {i : Nat} {s s' : Option Qs} (hs : S[i]? = some s) (hs' : S[i]? = some s') : slB s = slB s' ↔ (i : Int) ≠ -1 := by
  rw [hs] at hs'
  cases hs'
  exact ⟨fun _ => by omega, fun _ => rfl⟩

/-- Just the slot that is told has changed. -/
theorem deed_slots {N N' P : Nat} {S S' : St} (hS : OkS N S) (hS' : OkS N' S') {cs cs' : List Comp} {w w' : World} (h : All (shL P S ++ cs) w) (h' : All (shL P S' ++ cs') w') {k : Int} {nm tx : ByteArray} {n m c x j : Int} {items : List ByteArray} (hD : Deed S nm tx n m k S' c x items j) {i : Nat} {s s' : Option Qs} (hs : S[i]? = some s) (hs' : S'[i]? = some s') : slB s = slB s' ↔ (i : Int) ≠ j := by
  cases hD with
  | none k hk hf => exact same_slots hs hs'
  | there hf => exact same_slots hs hs'
  | full hf hf2 => exact same_slots hs hs'
  | make f b h1 hf hs0 =>
    refine set_slots (fun s0 h0 => ?_) hs hs'
    rw [hs0] at h0
    cases h0
    have hf : f < S.length := (List.getElem?_eq_some_iff.1 hs0).1
    have ho := hS'.each f _ (List.getElem?_set_self hf)
    exact fun e => slot_pos ho.nm16 e.symm
  | drop i0 q h1 hs0 hn =>
    refine set_slots (fun s0 h0 => ?_) hs hs'
    rw [hs0] at h0
    cases h0
    exact slot_pos (hS.each i0 q hs0).nm16
  | pushFull i0 q h1 hs0 hn hf => exact same_slots hs hs'
  | push i0 q iv' h1 hs0 hn hl hf =>
    refine set_slots (fun s0 h0 => ?_) hs hs'
    rw [hs0] at h0
    cases h0
    have hf : i0 < S.length := (List.getElem?_eq_some_iff.1 hs0).1
    have e2 := List.getElem?_set_self (a := some (⟨q.nm, q.first, q.items ++ [tx], iv', q.b, q.n, q.D⟩ : Qs)) hf
    intro e
    have := (slB_inj (hS.each i0 q hs0) (hS'.each i0 _ e2) (own_of h hs0) (own_of h' e2) e).2.2.1
    have := congrArg List.length this
    simp at this
  | trimNone i0 q h1 hs0 hn hl => exact same_slots hs hs'
  | trim i0 q iv' D' d h1 hs0 hn hd h0' hl ht =>
    refine set_slots (fun s0 h0 => ?_) hs hs'
    rw [hs0] at h0
    cases h0
    have hf : i0 < S.length := (List.getElem?_eq_some_iff.1 hs0).1
    have e2 := List.getElem?_set_self (a := some (⟨q.nm, q.first + d, q.items.drop d, iv', q.b, q.n, D'⟩ : Qs)) hf
    intro e
    have := (slB_inj (hS.each i0 q hs0) (hS'.each i0 _ e2) (own_of h hs0) (own_of h' e2) e).2.1
    simp only at this
    omega
  | takeFull i0 q h1 hs0 hn hh h4 => exact same_slots hs hs'
  | takeEmpty i0 q h1 hs0 hn hh => exact same_slots hs hs'
  | take i0 q d item h1 hs0 hn hd hh =>
    refine set_slots (fun s0 h0 => ?_) hs hs'
    rw [hs0] at h0
    cases h0
    have hf : i0 < S.length := (List.getElem?_eq_some_iff.1 hs0).1
    have e2 := List.getElem?_set_self (a := some (⟨q.nm, q.first, q.items, q.iv, q.b, q.n + 1, q.D.put (.string tx.data.toList) (.lit (.int .i64 ((q.first : Int) + (d : Int) + 1)))⟩ : Qs)) hf
    intro e
    have hg := (slB_inj (hS.each i0 q hs0) (hS'.each i0 _ e2) (own_of h hs0) (own_of h' e2) e).2.2.2
    simp only at hg
    have hmap : Maps.IsMap q.D := (tidy_of h i0 q hs0).isMap
    have hkl : WideAt.IsKeyLit (.string tx.data.toList) := trivial
    have hv := leftD_put_same (D := q.D) (kl := .string tx.data.toList) hmap hkl .i64 ((q.first : Int) + (d : Int) + 1)
    have hm : ((tx.data.toList, (q.first : Int) + (d : Int) + 1) : Grp) ∈ grS (q.D.put (.string tx.data.toList) (.lit (.int .i64 ((q.first : Int) + (d : Int) + 1)))) := by
      exact (mem_grS (own_of h' e2)).2 ⟨Maps.has_put_same hmap hkl _, hv.symm⟩
    rw [← hg] at hm
    obtain ⟨m1, m2⟩ := (mem_grS (own_of h hs0)).1 hm
    simp only at m1 m2
    rcases hh with ⟨a, b⟩ | ⟨a, _, _⟩
    · omega
    · rw [a] at m1; cases m1
  | readNone i0 q h1 hs0 hn hl => exact same_slots hs hs'
  | read i0 q d h1 hs0 hn hd hl => exact same_slots hs hs'
  | count i0 q h1 hs0 hn => exact same_slots hs hs'
  | list => exact same_slots hs hs'
/-- Which slot is told. -/
theorem deed_range {N : Nat} {S S' : St} (hS : OkS N S) {k : Int} {nm tx : ByteArray} {n m c x j : Int} {items : List ByteArray} (hD : Deed S nm tx n m k S' c x items j) : -1 ≤ j ∧ j < 8 := by
  have key : ∀ (i : Nat) (s : Option Qs), S[i]? = some s → -1 ≤ (i : Int) ∧ (i : Int) < 8 := fun i s hs => by
    have h1 := (List.getElem?_eq_some_iff.1 hs).1
    have h2 := hS.len
    omega
  cases hD with
  | make f b h1 hf hs0 => exact key _ _ hs0
  | drop i0 q h1 hs0 hn => exact key _ _ hs0
  | push i0 q iv' h1 hs0 hn hl hf => exact key _ _ hs0
  | trim i0 q iv' D' d h1 hs0 hn hd h0' hl ht => exact key _ _ hs0
  | take i0 q d item h1 hs0 hn hd hh => exact key _ _ hs0
  | _ => omega

theorem nmsS_small {N : Nat} {S : St} (hS : OkS N S) : (nmsS (stV S)).length ≤ 8 ∧ ∀ t ∈ nmsS (stV S), t.size ≤ 64 := by
  refine ⟨?_, fun t ht => ?_⟩
  · have h1 := nms_len (stV S)
    have h2 := hS.len
    rw [nmsS_len]
    rw [stV_len] at h1
    omega
  · obtain ⟨y, hy, rfl⟩ := List.mem_map.1 ht
    have hy2 : y ∈ rawT (nms (stV S)) := (List.mergeSort_perm _ _).mem_iff.1 hy
    obtain ⟨z, hz, rfl⟩ := List.mem_map.1 hy2
    have hz2 := (List.mem_filter.1 hz).1
    obtain ⟨v, hv, rfl⟩ := List.mem_map.1 hz2
    obtain ⟨s, hs, rfl⟩ := List.mem_map.1 hv
    obtain ⟨i, hi⟩ := List.getElem?_of_mem hs
    have e : (strB (slV s).nm.data.toList).size = (slV s).nm.size := by
      show (slV s).nm.data.toList.toArray.size = _
      rw [List.size_toArray]
      exact str_len _
    rw [e]
    cases s with
    | none => exact Nat.zero_le _
    | some q =>
      have := (hS.each i q hi).nm16
      simp only [slV, Qs.v]
      omega
theorem chkX_zero {c n : Int} {l : List ByteArray} (h1 : 0 ≤ c ∧ c ≤ 4) (h2 : c = 0 ∨ (n = 0 ∧ l = [])) (h3 : 0 ≤ n ∧ n ≤ 1099511627776) (h4 : l.length ≤ 8) (h5 : ∀ t ∈ l, t.size ≤ 64) : chkX c n l = 0 := by
  unfold chkX
  rw [if_neg (by omega), if_neg (by rintro ⟨a, b⟩; rcases h2 with h | ⟨h, h'⟩; exact a h; rcases b with b | b; exact b h; exact b h'), if_neg (by omega), if_neg (by omega), if_neg (by rintro ⟨t, a, b⟩; have := h5 t a; omega)]
/-- What an op tells may be. -/
theorem deed_res {N : Nat} {S S' : St} (hS : OkS N S) {k : Int} {nm tx : ByteArray} {n m c x j : Int} {items : List ByteArray} (hk : chkA k nm.size tx.size n m = 0) (hD : Deed S nm tx n m k S' c x items j) : chkX c x items = 0 := by
  obtain ⟨_, _, hn, hm, _⟩ := chk_small hk
  cases hD with
  | push i0 q iv' h1 hs0 hn hl hf => exact chkX_zero (by omega) (Or.inl rfl) (by omega) (by simp) (by simp)
  | trim i0 q iv' D' d h1 hs0 hn hd h0' hl ht =>
    have := (hS.each i0 q hs0).len
    exact chkX_zero (by omega) (Or.inl rfl) (by omega) (by simp) (by simp)
  | take i0 q d item h1 hs0 hn hd hh =>
    have h2 := (hS.each i0 q hs0).fin
    have h3 := (List.getElem?_eq_some_iff.1 hd).1
    exact chkX_zero (by omega) (Or.inl rfl) (by omega) (by simp) (fun t ht => by
      rw [List.mem_singleton] at ht
      subst ht
      exact (hS.each i0 q hs0).small _ (List.mem_of_getElem? hd))
  | readNone i0 q h1 hs0 hn hl => exact chkX_zero (by omega) (Or.inl rfl) (by omega) (by simp) (by simp)
  | read i0 q d h1 hs0 hn hd hl =>
    have h2 := (hS.each i0 q hs0).fin
    exact chkX_zero (by omega) (Or.inl rfl) (by omega) (by rw [List.length_take]; omega) (fun t ht => (hS.each i0 q hs0).small t (List.mem_of_mem_drop (List.mem_of_mem_take ht)))
  | count i0 q h1 hs0 hn =>
    have := (hS.each i0 q hs0).len
    exact chkX_zero (by omega) (Or.inl rfl) (by omega) (by simp) (by simp)
  | list =>
    obtain ⟨a, b⟩ := nmsS_small hS
    exact chkX_zero (by omega) (Or.inl rfl) (by omega) a b
  | _ => exact chkX_zero (by omega) (by simp) (by omega) (by simp) (by simp)
theorem one_q {S : St} {nm : ByteArray} {i i' : Nat} {q q' : Qs} (h : findN (stV S) nm = (i : Int)) (h' : findN (stV S) nm = (i' : Int)) (hs : S[i]? = some (some q)) (hs' : S[i']? = some (some q')) : q = q' := by
  rw [h] at h'
  obtain rfl : i = i' := by omega
  rw [hs] at hs'
  simpa using hs'
/-- A query leaves all as it is, and tells one thing. -/
theorem deed_query {S S1 S2 : St} {k : Int} {nm tx : ByteArray} {n m c1 x1 j1 c2 x2 j2 : Int} {i1 i2 : List ByteArray} (hq : isQ k = true) (h1 : Deed S nm tx n m k S1 c1 x1 i1 j1) (h2 : Deed S nm tx n m k S2 c2 x2 i2 j2) : S1 = S ∧ S2 = S ∧ c1 = c2 ∧ x1 = x2 ∧ i1 = i2 := by
  have hk : 6 ≤ k ∧ k ≤ 8 := of_decide_eq_true hq
  clear hq
  cases h1 with
  | none k hk1 hf =>
    cases h2 with
    | none k hk2 hf2 => exact ⟨rfl, rfl, rfl, rfl, rfl⟩
    | readNone i q hf2 hs hn hl => omega
    | read i q d hf2 hs hn hd hl => omega
    | count i q hf2 hs hn => omega
    | _ => omega
  | readNone i q hf hs hn hl =>
    cases h2 with
    | none k hk2 hf2 => omega
    | readNone i' q' hf2 hs2 hn2 hl2 => exact ⟨rfl, rfl, rfl, rfl, rfl⟩
    | read i' q' d hf2 hs2 hn2 hd hl2 =>
      obtain rfl := one_q hf hf2 hs hs2
      omega
  | read i q d hf hs hn hd hl =>
    cases h2 with
    | none k hk2 hf2 => omega
    | readNone i' q' hf2 hs2 hn2 hl2 =>
      obtain rfl := one_q hf hf2 hs hs2
      omega
    | read i' q' d' hf2 hs2 hn2 hd2 hl2 =>
      obtain rfl := one_q hf hf2 hs hs2
      obtain rfl : d = d' := by omega
      exact ⟨rfl, rfl, rfl, rfl, rfl⟩
  | count i q hf hs hn =>
    cases h2 with
    | none k hk2 hf2 => omega
    | count i' q' hf2 hs2 hn2 =>
      obtain rfl := one_q hf hf2 hs hs2
      exact ⟨rfl, rfl, rfl, rfl, rfl⟩
  | list =>
    cases h2 with
    | none k hk2 hf2 => omega
    | list => exact ⟨rfl, rfl, rfl, rfl, rfl⟩
  | _ => omega
end Go.Proofs.YtafickhhdemjnaaGreatDoor
