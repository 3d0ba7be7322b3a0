import Derived.Test.YtkcepkehgkkkbaaGreatDoorFormsP
namespace Go.Proofs.YtkcepkehgkkkbaaGreatDoor
open Go.RowKit
set_option linter.unusedVariables false

set_option maxHeartbeats 800000 in
set_option maxRecDepth 1000000 in
theorem Close_any {w : World} {b : Nat} {D : Option Nat} {rv : Value} {rs : List UInt8} {place : Nat} {err : Int} (h : Rd w b D rv rs place err) :
    Calls Tryz.prog 22 #[.pointer (some ⟨b, 0, none⟩)] w fun e w' => e = .returned (.int .i64 (if rs = [] then err else keepE err 15)) ∧ (∃ rv', Rd w' b D rv' [] place (if rs = [] then err else keepE err 15)) ∧ Only b w w' := by
  obtain ⟨ao, c, hf⟩ := h.reads.form
  subst hf
  have c0 : w.cell? ⟨b, 0, none⟩ = some (.slice ao rs.length c) := by rw [cell_at h.box]; rfl
  have c2 : w.cell? ⟨b, 2, none⟩ = some (.int .i64 err) := by rw [cell_at h.box]; rfl
  have HH : Hid _ := h
  clear h
  by_cases hrs : rs = []
  · subst hrs
    rw [if_pos rfl]
    go_enter Tryz.func22, Tryz.ntmps22
    go_wp2
    go_ret
    exact ⟨rfl, ⟨_, HH.out⟩, Only.refl _ _⟩
  · rw [if_neg hrs]
    have hl : 0 < rs.length := List.length_pos_iff.2 hrs
    clear hrs
    go_enter Tryz.func22, Tryz.ntmps22
    go_wp2_with fail
    refine (rfail_any HH.out 15 (by omega)).mono ?_
    rintro e w1 ⟨rfl, ⟨rv', h1⟩, h2⟩
    have H1 : Hid _ := h1
    have H2 : Hid _ := h2
    have d2 : w1.cell? ⟨b, 2, none⟩ = some (.int .i64 (keepE err 15)) := by rw [cell_at h1.box]; rfl
    clear h1 h2
    go_wp2
    go_ret
    exact ⟨rfl, ⟨_, H1.out⟩, H2.out⟩

theorem num_enc (n : Nat) (hn : n < 9223372036854775808) (rest : List UInt8) (pl : Nat) (err most : Int) (hm : (n : Int) ≤ most) : (⟨enc 9 n ++ rest, pl, err⟩ : Rst).numV most = n ∧ (⟨enc 9 n ++ rest, pl, err⟩ : Rst).num most = ⟨rest, pl + (enc 9 n).length, err⟩ := by
  have h := numR_enc n hn rest most 13 hm
  constructor
  · simp only [Rst.numV, h]
  · simp only [Rst.num, h, Rst.aft, aft]
    simp

theorem strB_self (s : ByteArray) : strB s.data.toList = s := by cases s; simp [strB]
theorem txt_enc (s : ByteArray) (most : Int) (hm : most < 9223372036854775808) (hs : (s.size : Int) ≤ most) (rest : List UInt8) (pl : Nat) (err : Int) : (⟨txtB s ++ rest, pl, err⟩ : Rst).txtV most = s ∧ (⟨txtB s ++ rest, pl, err⟩ : Rst).txt most = ⟨rest, pl + (txtB s).length, err⟩ := by
  have hl := str_len s
  have h := runR_enc s.data.toList rest (by omega) most (by omega)
  rw [hl, ← List.append_assoc] at h
  have ht : txtB s = enc 9 s.size ++ s.data.toList := rfl
  rw [← ht] at h
  have h3 : (txtB s).length = (enc 9 s.size).length + s.size := by rw [ht, List.length_append, hl]
  constructor
  · simp only [Rst.txtV, h]
    exact strB_self s
  · simp only [Rst.txt, h, Rst.aft, aft, if_true]
    simp only [Rst.mk.injEq, and_true]
    rw [← h3, List.drop_left]
    exact ⟨rfl, rfl⟩

theorem txt_enc64 (s : ByteArray) (hs : s.size ≤ 64) (rest : List UInt8) (pl : Nat) (err : Int) : (⟨(enc 9 s.size ++ s.data.toList) ++ rest, pl, err⟩ : Rst).txtV 64 = s ∧ (⟨(enc 9 s.size ++ s.data.toList) ++ rest, pl, err⟩ : Rst).txt 64 = ⟨rest, pl + ((enc 9 s.size).length + s.size), err⟩ := by
  have hl := str_len s
  have h := runR_enc s.data.toList rest (by omega) 64 (by omega)
  rw [hl, ← List.append_assoc] at h
  constructor
  · simp only [Rst.txtV, h]
    exact strB_self s
  · simp only [Rst.txt, h, Rst.aft, aft, if_true]
    simp only [Rst.mk.injEq, and_true]
    have : (enc 9 s.size ++ s.data.toList).length = (enc 9 s.size).length + s.size := by rw [List.length_append, hl]
    rw [← this, List.drop_left]

theorem textsB_drop {l : List ByteArray} {k : Nat} (hk : k < l.length) : textsB (l.drop k) = (enc 9 l[k].size ++ l[k].data.toList) ++ textsB (l.drop (k + 1)) := by
  rw [List.drop_eq_getElem_cons hk, textsB, List.flatMap_cons, ← textsB]

theorem items_enc (l : List ByteArray) (hl : ∀ t ∈ l, t.size ≤ 64) (rest : List UInt8) (pl : Nat) (err : Int) : ∀ k, k ≤ l.length → ∃ pl', (⟨textsB l ++ rest, pl, err⟩ : Rst).items k = (l.take k, ⟨textsB (l.drop k) ++ rest, pl', err⟩) := by
  intro k
  induction k with
  | zero => intro _; exact ⟨pl, by simp [Rst.items]⟩
  | succ k ih =>
    intro hk
    obtain ⟨pl', h⟩ := ih (by omega)
    have hk' : k < l.length := by omega
    have ht := txt_enc64 l[k] (hl _ (List.getElem_mem hk')) (textsB (l.drop (k + 1)) ++ rest) pl' err
    rw [← List.append_assoc, ← textsB_drop hk'] at ht
    refine ⟨pl' + ((enc 9 l[k].size).length + l[k].size), ?_⟩
    simp only [Rst.items, h]
    rw [ht.1, ht.2, List.take_succ_eq_append_getElem hk']

theorem res_enc {c k : Int} {l : List ByteArray} (h0 : 0 ≤ c) (h1 : c ≤ 4) (h2 : 0 ≤ k) (h3 : k ≤ 1099511627776) (h4 : c ≠ 0 → k = 0 ∧ l = []) (h5 : l.length ≤ 8) (h6 : ∀ t ∈ l, t.size ≤ 64) (pl : Nat) :
    ∃ pl', (⟨enc 9 c.toNat ++ (if c = 0 then enc 9 k.toNat ++ itemsB l else []), pl, 0⟩ : Rst).res0 = (⟨c, k, l⟩, ⟨[], pl', 0⟩) := by
  have a1 := num_enc c.toNat (by omega) (if c = 0 then enc 9 k.toNat ++ itemsB l else []) pl 0 4 (by omega)
  rw [show ((c.toNat : Nat) : Int) = c by omega] at a1
  by_cases hc : c = 0
  · subst hc
    rw [if_pos rfl] at a1 ⊢
    have a2 := num_enc k.toNat (by omega) (itemsB l) (pl + (enc 9 (0 : Int).toNat).length) 0 1099511627776 (by omega)
    rw [show ((k.toNat : Nat) : Int) = k by omega] at a2
    have a3 := num_enc l.length (by omega) (textsB l) (pl + (enc 9 (0 : Int).toNat).length + (enc 9 k.toNat).length) 0 8 (by omega)
    obtain ⟨pl', a4⟩ := items_enc l h6 [] (pl + (enc 9 (0 : Int).toNat).length + (enc 9 k.toNat).length + (enc 9 l.length).length) 0 l.length (Nat.le_refl _)
    simp only [List.append_nil, List.take_length, List.drop_length] at a4
    refine ⟨pl', ?_⟩
    rw [Rst.res0, a1.1, if_pos rfl, a1.2, a2.1, a2.2]
    unfold itemsB
    rw [a3.1, a3.2, show ((l.length : Nat) : Int).toNat = l.length by simp, a4]
    simp [textsB]
  · obtain ⟨rfl, rfl⟩ := h4 hc
    rw [if_neg hc] at a1 ⊢
    refine ⟨pl + (enc 9 c.toNat).length, ?_⟩
    rw [Rst.res0, a1.1, if_neg hc, a1.2]

theorem emp_of {s : ByteArray} (h : (s.size : Int) = 0) : s = emp := by
  have h2 : s.data.size = 0 := by have : s.data.size = s.size := rfl; omega
  cases s with
  | mk a => simp only at h2; rw [Array.eq_empty_of_size_eq_zero h2]
theorem fail_zero (r : Rst) : r.fail 0 = r := by rw [Rst.fail, if_pos rfl]

theorem chk_1 {nm tx : ByteArray} {n m : Int} (h : chkA 1 nm.size tx.size n m = 0) : (1 ≤ (nm.size : Int) ∧ (nm.size : Int) ≤ 16) ∧ (tx.size : Int) = 0 ∧ n = 0 ∧ m = 0 := by
  rw [chkA_in (by omega) (by omega)] at h
  simp only [chkT, formN, chkR, wr, ex, hs, hl] at h
  simp only [Int.reduceToNat, Nat.reduceMul, Nat.reduceAdd, List.getD_cons_succ, List.getD_cons_zero] at h
  repeat' (split at h)
  all_goals simp_all
  all_goals omega

theorem back1 {b : Nat} {D : Option Nat} {rv : Value} {cs : List Comp} {w : World} {nm tx : ByteArray} {n m : Int} {bs rest : List UInt8} {pl : Nat} (hchk : chkA 1 nm.size tx.size n m = 0) (hbs : putV 1 (some []) nm tx n m = some bs) (h : All (rdC b D rv ⟨bs ++ rest, pl, 0⟩ :: cs) w) (ht : ∀ w', All cs w' → Tab w') (hp : pl + (bs ++ rest).length ≤ 140737488355328) :
    Calls Tryz.prog 12 #[.pointer (some ⟨b, 0, none⟩)] w fun e w' => e = .returned (opV 1 nm tx n m) ∧ ∃ rv', All (rdC b D rv' ⟨rest, pl + bs.length, 0⟩ :: cs) w' := by
  obtain ⟨c1, c2, c3, c4⟩ := chk_1 hchk
  obtain rfl := emp_of c2
  subst c3
  subst c4
  have hb : bs = enc 9 1 ++ txtB nm := by
    have := hbs
    simp only [putV] at this
    simp [addS] at this
    simpa using this.symm
  have hl : bs.length = (enc 9 1).length + (txtB nm).length := by rw [hb]; simp only [List.length_append]
  have e : bs ++ rest = enc 9 1 ++ (txtB nm ++ rest) := by rw [hb]; simp only [List.append_assoc]
  rw [e] at h hp
  have a0 := num_enc 1 (by omega) (txtB nm ++ rest) pl 0 8 (by omega)
  have a1 := txt_enc nm 16 (by omega) (by omega) (rest) (pl + (enc 9 1).length) 0
  have G := get1 h ht hp a0.1
  rw [a0.2, a1.1, a1.2, hchk, fail_zero] at G
  rw [hl]
  refine G.mono ?_
  rintro e w' ⟨rfl, rv', A⟩
  exact ⟨by rw [gotV, if_pos rfl], rv', by simpa only [Nat.add_assoc] using A⟩

theorem chk_2 {nm tx : ByteArray} {n m : Int} (h : chkA 2 nm.size tx.size n m = 0) : (1 ≤ (nm.size : Int) ∧ (nm.size : Int) ≤ 16) ∧ (tx.size : Int) = 0 ∧ n = 0 ∧ m = 0 := by
  rw [chkA_in (by omega) (by omega)] at h
  simp only [chkT, formN, chkR, wr, ex, hs, hl] at h
  simp only [Int.reduceToNat, Nat.reduceMul, Nat.reduceAdd, List.getD_cons_succ, List.getD_cons_zero] at h
  repeat' (split at h)
  all_goals simp_all
  all_goals omega

theorem back2 {b : Nat} {D : Option Nat} {rv : Value} {cs : List Comp} {w : World} {nm tx : ByteArray} {n m : Int} {bs rest : List UInt8} {pl : Nat} (hchk : chkA 2 nm.size tx.size n m = 0) (hbs : putV 2 (some []) nm tx n m = some bs) (h : All (rdC b D rv ⟨bs ++ rest, pl, 0⟩ :: cs) w) (ht : ∀ w', All cs w' → Tab w') (hp : pl + (bs ++ rest).length ≤ 140737488355328) :
    Calls Tryz.prog 12 #[.pointer (some ⟨b, 0, none⟩)] w fun e w' => e = .returned (opV 2 nm tx n m) ∧ ∃ rv', All (rdC b D rv' ⟨rest, pl + bs.length, 0⟩ :: cs) w' := by
  obtain ⟨c1, c2, c3, c4⟩ := chk_2 hchk
  obtain rfl := emp_of c2
  subst c3
  subst c4
  have hb : bs = enc 9 2 ++ txtB nm := by
    have := hbs
    simp only [putV] at this
    simp [addS] at this
    simpa using this.symm
  have hl : bs.length = (enc 9 2).length + (txtB nm).length := by rw [hb]; simp only [List.length_append]
  have e : bs ++ rest = enc 9 2 ++ (txtB nm ++ rest) := by rw [hb]; simp only [List.append_assoc]
  rw [e] at h hp
  have a0 := num_enc 2 (by omega) (txtB nm ++ rest) pl 0 8 (by omega)
  have a1 := txt_enc nm 16 (by omega) (by omega) (rest) (pl + (enc 9 2).length) 0
  have G := get2 h ht hp a0.1
  rw [a0.2, a1.1, a1.2, hchk, fail_zero] at G
  rw [hl]
  refine G.mono ?_
  rintro e w' ⟨rfl, rv', A⟩
  exact ⟨by rw [gotV, if_pos rfl], rv', by simpa only [Nat.add_assoc] using A⟩

theorem chk_3 {nm tx : ByteArray} {n m : Int} (h : chkA 3 nm.size tx.size n m = 0) : (1 ≤ (nm.size : Int) ∧ (nm.size : Int) ≤ 16) ∧ (0 ≤ (tx.size : Int) ∧ (tx.size : Int) ≤ 64) ∧ n = 0 ∧ m = 0 := by
  rw [chkA_in (by omega) (by omega)] at h
  simp only [chkT, formN, chkR, wr, ex, hs, hl] at h
  simp only [Int.reduceToNat, Nat.reduceMul, Nat.reduceAdd, List.getD_cons_succ, List.getD_cons_zero] at h
  repeat' (split at h)
  all_goals simp_all
  all_goals omega

theorem back3 {b : Nat} {D : Option Nat} {rv : Value} {cs : List Comp} {w : World} {nm tx : ByteArray} {n m : Int} {bs rest : List UInt8} {pl : Nat} (hchk : chkA 3 nm.size tx.size n m = 0) (hbs : putV 3 (some []) nm tx n m = some bs) (h : All (rdC b D rv ⟨bs ++ rest, pl, 0⟩ :: cs) w) (ht : ∀ w', All cs w' → Tab w') (hp : pl + (bs ++ rest).length ≤ 140737488355328) :
    Calls Tryz.prog 12 #[.pointer (some ⟨b, 0, none⟩)] w fun e w' => e = .returned (opV 3 nm tx n m) ∧ ∃ rv', All (rdC b D rv' ⟨rest, pl + bs.length, 0⟩ :: cs) w' := by
  obtain ⟨c1, c2, c3, c4⟩ := chk_3 hchk
  subst c3
  subst c4
  have hb : bs = enc 9 3 ++ txtB nm ++ txtB tx := by
    have := hbs
    simp only [putV] at this
    simp [addS] at this
    simpa using this.symm
  have hl : bs.length = (enc 9 3).length + (txtB nm).length + (txtB tx).length := by rw [hb]; simp only [List.length_append]
  have e : bs ++ rest = enc 9 3 ++ (txtB nm ++ (txtB tx ++ rest)) := by rw [hb]; simp only [List.append_assoc]
  rw [e] at h hp
  have a0 := num_enc 3 (by omega) (txtB nm ++ (txtB tx ++ rest)) pl 0 8 (by omega)
  have a1 := txt_enc nm 16 (by omega) (by omega) (txtB tx ++ rest) (pl + (enc 9 3).length) 0
  have a2 := txt_enc tx 64 (by omega) (by omega) (rest) (pl + (enc 9 3).length + (txtB nm).length) 0
  have G := get3 h ht hp a0.1
  rw [a0.2, a1.1, a1.2, a2.1, a2.2, hchk, fail_zero] at G
  rw [hl]
  refine G.mono ?_
  rintro e w' ⟨rfl, rv', A⟩
  exact ⟨by rw [gotV, if_pos rfl], rv', by simpa only [Nat.add_assoc] using A⟩

theorem chk_4 {nm tx : ByteArray} {n m : Int} (h : chkA 4 nm.size tx.size n m = 0) : (1 ≤ (nm.size : Int) ∧ (nm.size : Int) ≤ 16) ∧ (tx.size : Int) = 0 ∧ (0 ≤ n ∧ n ≤ 1099511627776) ∧ m = 0 := by
  rw [chkA_in (by omega) (by omega)] at h
  simp only [chkT, formN, chkR, wr, ex, hs, hl] at h
  simp only [Int.reduceToNat, Nat.reduceMul, Nat.reduceAdd, List.getD_cons_succ, List.getD_cons_zero] at h
  repeat' (split at h)
  all_goals simp_all
  all_goals omega

theorem back4 {b : Nat} {D : Option Nat} {rv : Value} {cs : List Comp} {w : World} {nm tx : ByteArray} {n m : Int} {bs rest : List UInt8} {pl : Nat} (hchk : chkA 4 nm.size tx.size n m = 0) (hbs : putV 4 (some []) nm tx n m = some bs) (h : All (rdC b D rv ⟨bs ++ rest, pl, 0⟩ :: cs) w) (ht : ∀ w', All cs w' → Tab w') (hp : pl + (bs ++ rest).length ≤ 140737488355328) :
    Calls Tryz.prog 12 #[.pointer (some ⟨b, 0, none⟩)] w fun e w' => e = .returned (opV 4 nm tx n m) ∧ ∃ rv', All (rdC b D rv' ⟨rest, pl + bs.length, 0⟩ :: cs) w' := by
  obtain ⟨c1, c2, c3, c4⟩ := chk_4 hchk
  obtain rfl := emp_of c2
  obtain ⟨N, rfl⟩ : ∃ N : Nat, n = (N : Int) := ⟨n.toNat, by omega⟩
  subst c4
  have hb : bs = enc 9 4 ++ txtB nm ++ enc 9 N := by
    have := hbs
    simp only [putV] at this
    simp [numS_nat, addS] at this
    simpa using this.symm
  have hl : bs.length = (enc 9 4).length + (txtB nm).length + (enc 9 N).length := by rw [hb]; simp only [List.length_append]
  have e : bs ++ rest = enc 9 4 ++ (txtB nm ++ (enc 9 N ++ rest)) := by rw [hb]; simp only [List.append_assoc]
  rw [e] at h hp
  have a0 := num_enc 4 (by omega) (txtB nm ++ (enc 9 N ++ rest)) pl 0 8 (by omega)
  have a1 := txt_enc nm 16 (by omega) (by omega) (enc 9 N ++ rest) (pl + (enc 9 4).length) 0
  have a2 := num_enc N (by omega) (rest) (pl + (enc 9 4).length + (txtB nm).length) 0 1099511627776 (by omega)
  have G := get4 h ht hp a0.1
  rw [a0.2, a1.1, a1.2, a2.1, a2.2, hchk, fail_zero] at G
  rw [hl]
  refine G.mono ?_
  rintro e w' ⟨rfl, rv', A⟩
  exact ⟨by rw [gotV, if_pos rfl], rv', by simpa only [Nat.add_assoc] using A⟩

theorem chk_5 {nm tx : ByteArray} {n m : Int} (h : chkA 5 nm.size tx.size n m = 0) : (1 ≤ (nm.size : Int) ∧ (nm.size : Int) ≤ 16) ∧ (1 ≤ (tx.size : Int) ∧ (tx.size : Int) ≤ 16) ∧ n = 0 ∧ m = 0 := by
  rw [chkA_in (by omega) (by omega)] at h
  simp only [chkT, formN, chkR, wr, ex, hs, hl] at h
  simp only [Int.reduceToNat, Nat.reduceMul, Nat.reduceAdd, List.getD_cons_succ, List.getD_cons_zero] at h
  repeat' (split at h)
  all_goals simp_all
  all_goals omega

theorem back5 {b : Nat} {D : Option Nat} {rv : Value} {cs : List Comp} {w : World} {nm tx : ByteArray} {n m : Int} {bs rest : List UInt8} {pl : Nat} (hchk : chkA 5 nm.size tx.size n m = 0) (hbs : putV 5 (some []) nm tx n m = some bs) (h : All (rdC b D rv ⟨bs ++ rest, pl, 0⟩ :: cs) w) (ht : ∀ w', All cs w' → Tab w') (hp : pl + (bs ++ rest).length ≤ 140737488355328) :
    Calls Tryz.prog 12 #[.pointer (some ⟨b, 0, none⟩)] w fun e w' => e = .returned (opV 5 nm tx n m) ∧ ∃ rv', All (rdC b D rv' ⟨rest, pl + bs.length, 0⟩ :: cs) w' := by
  obtain ⟨c1, c2, c3, c4⟩ := chk_5 hchk
  subst c3
  subst c4
  have hb : bs = enc 9 5 ++ txtB nm ++ txtB tx := by
    have := hbs
    simp only [putV] at this
    simp [addS] at this
    simpa using this.symm
  have hl : bs.length = (enc 9 5).length + (txtB nm).length + (txtB tx).length := by rw [hb]; simp only [List.length_append]
  have e : bs ++ rest = enc 9 5 ++ (txtB nm ++ (txtB tx ++ rest)) := by rw [hb]; simp only [List.append_assoc]
  rw [e] at h hp
  have a0 := num_enc 5 (by omega) (txtB nm ++ (txtB tx ++ rest)) pl 0 8 (by omega)
  have a1 := txt_enc nm 16 (by omega) (by omega) (txtB tx ++ rest) (pl + (enc 9 5).length) 0
  have a2 := txt_enc tx 16 (by omega) (by omega) (rest) (pl + (enc 9 5).length + (txtB nm).length) 0
  have G := get5 h ht hp a0.1
  rw [a0.2, a1.1, a1.2, a2.1, a2.2, hchk, fail_zero] at G
  rw [hl]
  refine G.mono ?_
  rintro e w' ⟨rfl, rv', A⟩
  exact ⟨by rw [gotV, if_pos rfl], rv', by simpa only [Nat.add_assoc] using A⟩

theorem chk_6 {nm tx : ByteArray} {n m : Int} (h : chkA 6 nm.size tx.size n m = 0) : (1 ≤ (nm.size : Int) ∧ (nm.size : Int) ≤ 16) ∧ (tx.size : Int) = 0 ∧ (0 ≤ n ∧ n ≤ 1099511627776) ∧ (1 ≤ m ∧ m ≤ 8) := by
  rw [chkA_in (by omega) (by omega)] at h
  simp only [chkT, formN, chkR, wr, ex, hs, hl] at h
  simp only [Int.reduceToNat, Nat.reduceMul, Nat.reduceAdd, List.getD_cons_succ, List.getD_cons_zero] at h
  repeat' (split at h)
  all_goals simp_all
  all_goals omega

theorem back6 {b : Nat} {D : Option Nat} {rv : Value} {cs : List Comp} {w : World} {nm tx : ByteArray} {n m : Int} {bs rest : List UInt8} {pl : Nat} (hchk : chkA 6 nm.size tx.size n m = 0) (hbs : putV 6 (some []) nm tx n m = some bs) (h : All (rdC b D rv ⟨bs ++ rest, pl, 0⟩ :: cs) w) (ht : ∀ w', All cs w' → Tab w') (hp : pl + (bs ++ rest).length ≤ 140737488355328) :
    Calls Tryz.prog 12 #[.pointer (some ⟨b, 0, none⟩)] w fun e w' => e = .returned (opV 6 nm tx n m) ∧ ∃ rv', All (rdC b D rv' ⟨rest, pl + bs.length, 0⟩ :: cs) w' := by
  obtain ⟨c1, c2, c3, c4⟩ := chk_6 hchk
  obtain rfl := emp_of c2
  obtain ⟨N, rfl⟩ : ∃ N : Nat, n = (N : Int) := ⟨n.toNat, by omega⟩
  obtain ⟨M, rfl⟩ : ∃ M : Nat, m = (M : Int) := ⟨m.toNat, by omega⟩
  have hb : bs = enc 9 6 ++ txtB nm ++ enc 9 N ++ enc 9 M := by
    have := hbs
    simp only [putV] at this
    simp [numS_nat, addS] at this
    simpa using this.symm
  have hl : bs.length = (enc 9 6).length + (txtB nm).length + (enc 9 N).length + (enc 9 M).length := by rw [hb]; simp only [List.length_append]
  have e : bs ++ rest = enc 9 6 ++ (txtB nm ++ (enc 9 N ++ (enc 9 M ++ rest))) := by rw [hb]; simp only [List.append_assoc]
  rw [e] at h hp
  have a0 := num_enc 6 (by omega) (txtB nm ++ (enc 9 N ++ (enc 9 M ++ rest))) pl 0 8 (by omega)
  have a1 := txt_enc nm 16 (by omega) (by omega) (enc 9 N ++ (enc 9 M ++ rest)) (pl + (enc 9 6).length) 0
  have a2 := num_enc N (by omega) (enc 9 M ++ rest) (pl + (enc 9 6).length + (txtB nm).length) 0 1099511627776 (by omega)
  have a3 := num_enc M (by omega) (rest) (pl + (enc 9 6).length + (txtB nm).length + (enc 9 N).length) 0 8 (by omega)
  have G := get6 h ht hp a0.1
  rw [a0.2, a1.1, a1.2, a2.1, a2.2, a3.1, a3.2, hchk, fail_zero] at G
  rw [hl]
  refine G.mono ?_
  rintro e w' ⟨rfl, rv', A⟩
  exact ⟨by rw [gotV, if_pos rfl], rv', by simpa only [Nat.add_assoc] using A⟩

theorem chk_7 {nm tx : ByteArray} {n m : Int} (h : chkA 7 nm.size tx.size n m = 0) : (1 ≤ (nm.size : Int) ∧ (nm.size : Int) ≤ 16) ∧ (tx.size : Int) = 0 ∧ n = 0 ∧ m = 0 := by
  rw [chkA_in (by omega) (by omega)] at h
  simp only [chkT, formN, chkR, wr, ex, hs, hl] at h
  simp only [Int.reduceToNat, Nat.reduceMul, Nat.reduceAdd, List.getD_cons_succ, List.getD_cons_zero] at h
  repeat' (split at h)
  all_goals simp_all
  all_goals omega

theorem back7 {b : Nat} {D : Option Nat} {rv : Value} {cs : List Comp} {w : World} {nm tx : ByteArray} {n m : Int} {bs rest : List UInt8} {pl : Nat} (hchk : chkA 7 nm.size tx.size n m = 0) (hbs : putV 7 (some []) nm tx n m = some bs) (h : All (rdC b D rv ⟨bs ++ rest, pl, 0⟩ :: cs) w) (ht : ∀ w', All cs w' → Tab w') (hp : pl + (bs ++ rest).length ≤ 140737488355328) :
    Calls Tryz.prog 12 #[.pointer (some ⟨b, 0, none⟩)] w fun e w' => e = .returned (opV 7 nm tx n m) ∧ ∃ rv', All (rdC b D rv' ⟨rest, pl + bs.length, 0⟩ :: cs) w' := by
  obtain ⟨c1, c2, c3, c4⟩ := chk_7 hchk
  obtain rfl := emp_of c2
  subst c3
  subst c4
  have hb : bs = enc 9 7 ++ txtB nm := by
    have := hbs
    simp only [putV] at this
    simp [addS] at this
    simpa using this.symm
  have hl : bs.length = (enc 9 7).length + (txtB nm).length := by rw [hb]; simp only [List.length_append]
  have e : bs ++ rest = enc 9 7 ++ (txtB nm ++ rest) := by rw [hb]; simp only [List.append_assoc]
  rw [e] at h hp
  have a0 := num_enc 7 (by omega) (txtB nm ++ rest) pl 0 8 (by omega)
  have a1 := txt_enc nm 16 (by omega) (by omega) (rest) (pl + (enc 9 7).length) 0
  have G := get7 h ht hp a0.1
  rw [a0.2, a1.1, a1.2, hchk, fail_zero] at G
  rw [hl]
  refine G.mono ?_
  rintro e w' ⟨rfl, rv', A⟩
  exact ⟨by rw [gotV, if_pos rfl], rv', by simpa only [Nat.add_assoc] using A⟩

theorem chk_8 {nm tx : ByteArray} {n m : Int} (h : chkA 8 nm.size tx.size n m = 0) : (nm.size : Int) = 0 ∧ (tx.size : Int) = 0 ∧ n = 0 ∧ m = 0 := by
  rw [chkA_in (by omega) (by omega)] at h
  simp only [chkT, formN, chkR, wr, ex, hs, hl] at h
  simp only [Int.reduceToNat, Nat.reduceMul, Nat.reduceAdd, List.getD_cons_succ, List.getD_cons_zero] at h
  repeat' (split at h)
  all_goals simp_all
  all_goals omega

theorem back8 {b : Nat} {D : Option Nat} {rv : Value} {cs : List Comp} {w : World} {nm tx : ByteArray} {n m : Int} {bs rest : List UInt8} {pl : Nat} (hchk : chkA 8 nm.size tx.size n m = 0) (hbs : putV 8 (some []) nm tx n m = some bs) (h : All (rdC b D rv ⟨bs ++ rest, pl, 0⟩ :: cs) w) (ht : ∀ w', All cs w' → Tab w') (hp : pl + (bs ++ rest).length ≤ 140737488355328) :
    Calls Tryz.prog 12 #[.pointer (some ⟨b, 0, none⟩)] w fun e w' => e = .returned (opV 8 nm tx n m) ∧ ∃ rv', All (rdC b D rv' ⟨rest, pl + bs.length, 0⟩ :: cs) w' := by
  obtain ⟨c1, c2, c3, c4⟩ := chk_8 hchk
  obtain rfl := emp_of c1
  obtain rfl := emp_of c2
  subst c3
  subst c4
  have hb : bs = enc 9 8 := by
    have := hbs
    simp only [putV] at this
    simp [addS] at this
    simpa using this.symm
  have hl : bs.length = (enc 9 8).length := by rw [hb]
  have e : bs ++ rest = enc 9 8 ++ rest := by rw [hb]
  rw [e] at h hp
  have a0 := num_enc 8 (by omega) (rest) pl 0 8 (by omega)
  have G := get8 h ht hp a0.1
  rw [a0.2, hchk, fail_zero] at G
  rw [hl]
  refine G.mono ?_
  rintro e w' ⟨rfl, rv', A⟩
  exact ⟨by rw [gotV, if_pos rfl], rv', by simpa only [Nat.add_assoc] using A⟩

theorem backOp {b : Nat} {D : Option Nat} {rv : Value} {cs : List Comp} {w : World} {k : Int} {nm tx : ByteArray} {n m : Int} {bs rest : List UInt8} {pl : Nat} (hchk : chkA k nm.size tx.size n m = 0) (hbs : putV k.toNat (some []) nm tx n m = some bs) (h : All (rdC b D rv ⟨bs ++ rest, pl, 0⟩ :: cs) w) (ht : ∀ w', All cs w' → Tab w') (hp : pl + (bs ++ rest).length ≤ 140737488355328) :
    Calls Tryz.prog 12 #[.pointer (some ⟨b, 0, none⟩)] w fun e w' => e = .returned (opV k nm tx n m) ∧ ∃ rv', All (rdC b D rv' ⟨rest, pl + bs.length, 0⟩ :: cs) w' := by
  have hk : 1 ≤ k ∧ k ≤ 8 := by
    by_cases hk : k < 1 ∨ 8 < k
    · rw [chkA_out hk] at hchk; omega
    · omega
  obtain rfl | rfl | rfl | rfl | rfl | rfl | rfl | rfl : k = 1 ∨ k = 2 ∨ k = 3 ∨ k = 4 ∨ k = 5 ∨ k = 6 ∨ k = 7 ∨ k = 8 := by omega
  · exact back1 hchk hbs h ht hp
  · exact back2 hchk hbs h ht hp
  · exact back3 hchk hbs h ht hp
  · exact back4 hchk hbs h ht hp
  · exact back5 hchk hbs h ht hp
  · exact back6 hchk hbs h ht hp
  · exact back7 hchk hbs h ht hp
  · exact back8 hchk hbs h ht hp

/-- An op that may be is small. -/
theorem chk_small {k : Int} {nm tx : ByteArray} {n m : Int} (h : chkA k nm.size tx.size n m = 0) : nm.size ≤ 16 ∧ tx.size ≤ 64 ∧ (0 ≤ n ∧ n ≤ 1099511627776) ∧ (0 ≤ m ∧ m ≤ 8) ∧ 1 ≤ k ∧ k ≤ 8 := by
  have hk : 1 ≤ k ∧ k ≤ 8 := by
    by_cases hk : k < 1 ∨ 8 < k
    · rw [chkA_out hk] at h; omega
    · omega
  obtain rfl | rfl | rfl | rfl | rfl | rfl | rfl | rfl : k = 1 ∨ k = 2 ∨ k = 3 ∨ k = 4 ∨ k = 5 ∨ k = 6 ∨ k = 7 ∨ k = 8 := by omega
  · have := chk_1 h; omega
  · have := chk_2 h; omega
  · have := chk_3 h; omega
  · have := chk_4 h; omega
  · have := chk_5 h; omega
  · have := chk_6 h; omega
  · have := chk_7 h; omega
  · have := chk_8 h; omega
end Go.Proofs.YtkcepkehgkkkbaaGreatDoor
