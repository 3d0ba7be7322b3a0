import Derived.Test.YtkcepkehgkkkbaaGreatDoorJ16
import Derived.Test.YtkcepkehgkkkbaaGreatDoorJ17
namespace Go.Proofs.YtkcepkehgkkkbaaGreatDoor
open Go.RowKit
set_option linter.unusedVariables false

set_option maxHeartbeats 800000 in
set_option maxRecDepth 1000000 in
theorem Close_any {w : World} {b : Nat} {D : Option Nat} {rv : Value} {rs : List UInt8} {place : Nat} {err : Int} (h : Rd w b D rv rs place err) :
    Calls Tryz.prog 22 #[.pointer (some ⟨b, 0, none⟩)] w fun e w' => e = .returned (.int .i64 (if rs = [] then err else keepE err 15)) ∧ (∃ rv', Rd w' b D rv' [] place (if rs = [] then err else keepE err 15)) ∧ Only b w w' := by
  obtain ⟨ao, c, hf⟩ := h.reads.form
  subst hf
  have c0 : w.cell? ⟨b, 0, none⟩ = some (.slice ao rs.length c) := by rw [cell_at h.box]; rfl
  have c2 : w.cell? ⟨b, 2, none⟩ = some (.int .i64 err) := by rw [cell_at h.box]; rfl
  have HH : Hid _ := h
  clear h
  by_cases hrs : rs = []
  · subst hrs
    rw [if_pos rfl]
    go_enter Tryz.func22, Tryz.ntmps22
    go_wp2
    go_ret
    exact ⟨rfl, ⟨_, HH.out⟩, Only.refl _ _⟩
  · rw [if_neg hrs]
    have hl : 0 < rs.length := List.length_pos_iff.2 hrs
    clear hrs
    go_enter Tryz.func22, Tryz.ntmps22
    go_wp2_with fail
    refine (rfail_any HH.out 15 (by omega)).mono ?_
    rintro e w1 ⟨rfl, ⟨rv', h1⟩, h2⟩
    have H1 : Hid _ := h1
    have H2 : Hid _ := h2
    have d2 : w1.cell? ⟨b, 2, none⟩ = some (.int .i64 (keepE err 15)) := by rw [cell_at h1.box]; rfl
    clear h1 h2
    go_wp2
    go_ret
    exact ⟨rfl, ⟨_, H1.out⟩, H2.out⟩

theorem num_enc (n : Nat) (hn : n < 9223372036854775808) (rest : List UInt8) (pl : Nat) (err most : Int) (hm : (n : Int) ≤ most) : (⟨enc 9 n ++ rest, pl, err⟩ : Rst).numV most = n ∧ (⟨enc 9 n ++ rest, pl, err⟩ : Rst).num most = ⟨rest, pl + (enc 9 n).length, err⟩ := by
  have h := numR_enc n hn rest most 13 hm
  constructor
  · simp only [Rst.numV, h]
  · simp only [Rst.num, h, Rst.aft, aft]
    simp

theorem strB_self (s : ByteArray) : strB s.data.toList = s := by cases s; simp [strB]
theorem txt_enc (s : ByteArray) (most : Int) (hm : most < 9223372036854775808) (hs : (s.size : Int) ≤ most) (rest : List UInt8) (pl : Nat) (err : Int) : (⟨txtB s ++ rest, pl, err⟩ : Rst).txtV most = s ∧ (⟨txtB s ++ rest, pl, err⟩ : Rst).txt most = ⟨rest, pl + (txtB s).length, err⟩ := by
  have hl := str_len s
  have h := runR_enc s.data.toList rest (by omega) most (by omega)
  rw [hl, ← List.append_assoc] at h
  have ht : txtB s = enc 9 s.size ++ s.data.toList := rfl
  rw [← ht] at h
  have h3 : (txtB s).length = (enc 9 s.size).length + s.size := by rw [ht, List.length_append, hl]
  constructor
  · simp only [Rst.txtV, h]
    exact strB_self s
  · simp only [Rst.txt, h, Rst.aft, aft, if_true]
    simp only [Rst.mk.injEq, and_true]
    rw [← h3, List.drop_left]
    exact ⟨rfl, rfl⟩

theorem txt_enc64 (s : ByteArray) (hs : s.size ≤ 64) (rest : List UInt8) (pl : Nat) (err : Int) : (⟨(enc 9 s.size ++ s.data.toList) ++ rest, pl, err⟩ : Rst).txtV 64 = s ∧ (⟨(enc 9 s.size ++ s.data.toList) ++ rest, pl, err⟩ : Rst).txt 64 = ⟨rest, pl + ((enc 9 s.size).length + s.size), err⟩ := by
  have hl := str_len s
  have h := runR_enc s.data.toList rest (by omega) 64 (by omega)
  rw [hl, ← List.append_assoc] at h
  constructor
  · simp only [Rst.txtV, h]
    exact strB_self s
  · simp only [Rst.txt, h, Rst.aft, aft, if_true]
    simp only [Rst.mk.injEq, and_true]
    have : (enc 9 s.size ++ s.data.toList).length = (enc 9 s.size).length + s.size := by rw [List.length_append, hl]
    rw [← this, List.drop_left]

theorem textsB_drop {l : List ByteArray} {k : Nat} (hk : k < l.length) : textsB (l.drop k) = (enc 9 l[k].size ++ l[k].data.toList) ++ textsB (l.drop (k + 1)) := by
  rw [List.drop_eq_getElem_cons hk, textsB, List.flatMap_cons, ← textsB]

theorem items_enc (l : List ByteArray) (hl : ∀ t ∈ l, t.size ≤ 64) (rest : List UInt8) (pl : Nat) (err : Int) : ∀ k, k ≤ l.length → ∃ pl', (⟨textsB l ++ rest, pl, err⟩ : Rst).items k = (l.take k, ⟨textsB (l.drop k) ++ rest, pl', err⟩) := by
  intro k
  induction k with
  | zero => intro _; exact ⟨pl, by simp [Rst.items]⟩
  | succ k ih =>
    intro hk
    obtain ⟨pl', h⟩ := ih (by omega)
    have hk' : k < l.length := by omega
    have ht := txt_enc64 l[k] (hl _ (List.getElem_mem hk')) (textsB (l.drop (k + 1)) ++ rest) pl' err
    rw [← List.append_assoc, ← textsB_drop hk'] at ht
    refine ⟨pl' + ((enc 9 l[k].size).length + l[k].size), ?_⟩
    simp only [Rst.items, h]
    rw [ht.1, ht.2, List.take_succ_eq_append_getElem hk']

theorem res_enc {c k : Int} {l : List ByteArray} (h0 : 0 ≤ c) (h1 : c ≤ 4) (h2 : 0 ≤ k) (h3 : k ≤ 1099511627776) (h4 : c ≠ 0 → k = 0 ∧ l = []) (h5 : l.length ≤ 8) (h6 : ∀ t ∈ l, t.size ≤ 64) (pl : Nat) :
    ∃ pl', (⟨enc 9 c.toNat ++ (if c = 0 then enc 9 k.toNat ++ itemsB l else []), pl, 0⟩ : Rst).res0 = (⟨c, k, l⟩, ⟨[], pl', 0⟩) := by
  have a1 := num_enc c.toNat (by omega) (if c = 0 then enc 9 k.toNat ++ itemsB l else []) pl 0 4 (by omega)
  rw [show ((c.toNat : Nat) : Int) = c by omega] at a1
  by_cases hc : c = 0
  · subst hc
    rw [if_pos rfl] at a1 ⊢
    have a2 := num_enc k.toNat (by omega) (itemsB l) (pl + (enc 9 (0 : Int).toNat).length) 0 1099511627776 (by omega)
    rw [show ((k.toNat : Nat) : Int) = k by omega] at a2
    have a3 := num_enc l.length (by omega) (textsB l) (pl + (enc 9 (0 : Int).toNat).length + (enc 9 k.toNat).length) 0 8 (by omega)
    obtain ⟨pl', a4⟩ := items_enc l h6 [] (pl + (enc 9 (0 : Int).toNat).length + (enc 9 k.toNat).length + (enc 9 l.length).length) 0 l.length (Nat.le_refl _)
    simp only [List.append_nil, List.take_length, List.drop_length] at a4
    refine ⟨pl', ?_⟩
    rw [Rst.res0, a1.1, if_pos rfl, a1.2, a2.1, a2.2]
    unfold itemsB
    rw [a3.1, a3.2, show ((l.length : Nat) : Int).toNat = l.length by simp, a4]
    simp [textsB]
  · obtain ⟨rfl, rfl⟩ := h4 hc
    rw [if_neg hc] at a1 ⊢
    refine ⟨pl + (enc 9 c.toNat).length, ?_⟩
    rw [Rst.res0, a1.1, if_neg hc, a1.2]

theorem emp_of {s : ByteArray} (h : (s.size : Int) = 0) : s = emp := by
  have h2 : s.data.size = 0 := by have : s.data.size = s.size := rfl; omega
  cases s with
  | mk a => simp only at h2; rw [Array.eq_empty_of_size_eq_zero h2]
theorem fail_zero (r : Rst) : r.fail 0 = r := by rw [Rst.fail, if_pos rfl]

theorem chk_1 {nm tx : ByteArray} {n m : Int} (h : chkA 1 nm.size tx.size n m = 0) : (1 ≤ (nm.size : Int) ∧ (nm.size : Int) ≤ 16) ∧ (tx.size : Int) = 0 ∧ n = 0 ∧ m = 0 := by
  rw [chkA_in (by omega) (by omega)] at h
  simp only [chkT, formN, chkR, wr, ex, hs, hl] at h
  simp only [Int.reduceToNat, Nat.reduceMul, Nat.reduceAdd, List.getD_cons_succ, List.getD_cons_zero] at h
  repeat' (split at h)
  all_goals simp_all
  all_goals omega

theorem back1 {b : Nat} {D : Option Nat} {rv : Value} {cs : List Comp} {w : World} {nm tx : ByteArray} {n m : Int} {bs rest : List UInt8} {pl : Nat} (hchk : chkA 1 nm.size tx.size n m = 0) (hbs : putV 1 (some []) nm tx n m = some bs) (h : All (rdC b D rv ⟨bs ++ rest, pl, 0⟩ :: cs) w) (ht : ∀ w', All cs w' → Tab w') (hp : pl + (bs ++ rest).length ≤ 140737488355328) :
    Calls Tryz.prog 12 #[.pointer (some ⟨b, 0, none⟩)] w fun e w' => e = .returned (opV 1 nm tx n m) ∧ ∃ rv', All (rdC b D rv' ⟨rest, pl + bs.length, 0⟩ :: cs) w' := by
  obtain ⟨c1, c2, c3, c4⟩ := chk_1 hchk
  obtain rfl := emp_of c2
  subst c3
  subst c4
  have hb : bs = enc 9 1 ++ txtB nm := by
    have := hbs
    simp only [putV] at this
    simp [addS] at this
    simpa using this.symm
  have hl : bs.length = (enc 9 1).length + (txtB nm).length := by rw [hb]; simp only [List.length_append]
  have e : bs ++ rest = enc 9 1 ++ (txtB nm ++ rest) := by rw [hb]; simp only [List.append_assoc]
  rw [e] at h hp
  have a0 := num_enc 1 (by omega) (txtB nm ++ rest) pl 0 8 (by omega)
  have a1 := txt_enc nm 16 (by omega) (by omega) (rest) (pl + (enc 9 1).length) 0
  have G := get1 h ht hp a0.1
  rw [a0.2, a1.1, a1.2, hchk, fail_zero] at G
  rw [hl]
  refine G.mono ?_
  rintro e w' ⟨rfl, rv', A⟩
  exact ⟨by rw [gotV, if_pos rfl], rv', by simpa only [Nat.add_assoc] using A⟩

theorem chk_2 {nm tx : ByteArray} {n m : Int} (h : chkA 2 nm.size tx.size n m = 0) : (1 ≤ (nm.size : Int) ∧ (nm.size : Int) ≤ 16) ∧ (tx.size : Int) = 0 ∧ n = 0 ∧ m = 0 := by
  rw [chkA_in (by omega) (by omega)] at h
  simp only [chkT, formN, chkR, wr, ex, hs, hl] at h
  simp only [Int.reduceToNat, Nat.reduceMul, Nat.reduceAdd, List.getD_cons_succ, List.getD_cons_zero] at h
  repeat' (split at h)
  all_goals simp_all
  all_goals omega

theorem back2 {b : Nat} {D : Option Nat} {rv : Value} {cs : List Comp} {w : World} {nm tx : ByteArray} {n m : Int} {bs rest : List UInt8} {pl : Nat} (hchk : chkA 2 nm.size tx.size n m = 0) (hbs : putV 2 (some []) nm tx n m = some bs) (h : All (rdC b D rv ⟨bs ++ rest, pl, 0⟩ :: cs) w) (ht : ∀ w', All cs w' → Tab w') (hp : pl + (bs ++ rest).length ≤ 140737488355328) :
    Calls Tryz.prog 12 #[.pointer (some ⟨b, 0, none⟩)] w fun e w' => e = .returned (opV 2 nm tx n m) ∧ ∃ rv', All (rdC b D rv' ⟨rest, pl + bs.length, 0⟩ :: cs) w' := by
  obtain ⟨c1, c2, c3, c4⟩ := chk_2 hchk
  obtain rfl := emp_of c2
  subst c3
  subst c4
  have hb : bs = enc 9 2 ++ txtB nm := by
    have := hbs
    simp only [putV] at this
    simp [addS] at this
    simpa using this.symm
  have hl : bs.length = (enc 9 2).length + (txtB nm).length := by rw [hb]; simp only [List.length_append]
  have e : bs ++ rest = enc 9 2 ++ (txtB nm ++ rest) := by rw [hb]; simp only [List.append_assoc]
  rw [e] at h hp
  have a0 := num_enc 2 (by omega) (txtB nm ++ rest) pl 0 8 (by omega)
  have a1 := txt_enc nm 16 (by omega) (by omega) (rest) (pl + (enc 9 2).length) 0
  have G := get2 h ht hp a0.1
  rw [a0.2, a1.1, a1.2, hchk, fail_zero] at G
  rw [hl]
  refine G.mono ?_
  rintro e w' ⟨rfl, rv', A⟩
  exact ⟨by rw [gotV, if_pos rfl], rv', by simpa only [Nat.add_assoc] using A⟩

theorem chk_3 {nm tx : ByteArray} {n m : Int} (h : chkA 3 nm.size tx.size n m = 0) : (1 ≤ (nm.size : Int) ∧ (nm.size : Int) ≤ 16) ∧ (0 ≤ (tx.size : Int) ∧ (tx.size : Int) ≤ 64) ∧ n = 0 ∧ m = 0 := by
  rw [chkA_in (by omega) (by omega)] at h
  simp only [chkT, formN, chkR, wr, ex, hs, hl] at h
  simp only [Int.reduceToNat, Nat.reduceMul, Nat.reduceAdd, List.getD_cons_succ, List.getD_cons_zero] at h
  repeat' (split at h)
  all_goals simp_all
  all_goals omega

theorem back3 {b : Nat} {D : Option Nat} {rv : Value} {cs : List Comp} {w : World} {nm tx : ByteArray} {n m : Int} {bs rest : List UInt8} {pl : Nat} (hchk : chkA 3 nm.size tx.size n m = 0) (hbs : putV 3 (some []) nm tx n m = some bs) (h : All (rdC b D rv ⟨bs ++ rest, pl, 0⟩ :: cs) w) (ht : ∀ w', All cs w' → Tab w') (hp : pl + (bs ++ rest).length ≤ 140737488355328) :
    Calls Tryz.prog 12 #[.pointer (some ⟨b, 0, none⟩)] w fun e w' => e = .returned (opV 3 nm tx n m) ∧ ∃ rv', All (rdC b D rv' ⟨rest, pl + bs.length, 0⟩ :: cs) w' := by
  obtain ⟨c1, c2, c3, c4⟩ := chk_3 hchk
  subst c3
  subst c4
  have hb : bs = enc 9 3 ++ txtB nm ++ txtB tx := by
    have := hbs
    simp only [putV] at this
    simp [addS] at this
    simpa using this.symm
  have hl : bs.length = (enc 9 3).length + (txtB nm).length + (txtB tx).length := by rw [hb]; simp only [List.length_append]
  have e : bs ++ rest = enc 9 3 ++ (txtB nm ++ (txtB tx ++ rest)) := by rw [hb]; simp only [List.append_assoc]
  rw [e] at h hp
  have a0 := num_enc 3 (by omega) (txtB nm ++ (txtB tx ++ rest)) pl 0 8 (by omega)
  have a1 := txt_enc nm 16 (by omega) (by omega) (txtB tx ++ rest) (pl + (enc 9 3).length) 0
  have a2 := txt_enc tx 64 (by omega) (by omega) (rest) (pl + (enc 9 3).length + (txtB nm).length) 0
  have G := get3 h ht hp a0.1
  rw [a0.2, a1.1, a1.2, a2.1, a2.2, hchk, fail_zero] at G
  rw [hl]
  refine G.mono ?_
  rintro e w' ⟨rfl, rv', A⟩
  exact ⟨by rw [gotV, if_pos rfl], rv', by simpa only [Nat.add_assoc] using A⟩

theorem chk_4 {nm tx : ByteArray} {n m : Int} (h : chkA 4 nm.size tx.size n m = 0) : (1 ≤ (nm.size : Int) ∧ (nm.size : Int) ≤ 16) ∧ (tx.size : Int) = 0 ∧ (0 ≤ n ∧ n ≤ 1099511627776) ∧ m = 0 := by
  rw [chkA_in (by omega) (by omega)] at h
  simp only [chkT, formN, chkR, wr, ex, hs, hl] at h
  simp only [Int.reduceToNat, Nat.reduceMul, Nat.reduceAdd, List.getD_cons_succ, List.getD_cons_zero] at h
  repeat' (split at h)
  all_goals simp_all
  all_goals omega

theorem back4 {b : Nat} {D : Option Nat} {rv : Value} {cs : List Comp} {w : World} {nm tx : ByteArray} {n m : Int} {bs rest : List UInt8} {pl : Nat} (hchk : chkA 4 nm.size tx.size n m = 0) (hbs : putV 4 (some []) nm tx n m = some bs) (h : All (rdC b D rv ⟨bs ++ rest, pl, 0⟩ :: cs) w) (ht : ∀ w', All cs w' → Tab w') (hp : pl + (bs ++ rest).length ≤ 140737488355328) :
    Calls Tryz.prog 12 #[.pointer (some ⟨b, 0, none⟩)] w fun e w' => e = .returned (opV 4 nm tx n m) ∧ ∃ rv', All (rdC b D rv' ⟨rest, pl + bs.length, 0⟩ :: cs) w' := by
  obtain ⟨c1, c2, c3, c4⟩ := chk_4 hchk
  obtain rfl := emp_of c2
  obtain ⟨N, rfl⟩ : ∃ N : Nat, n = (N : Int) := ⟨n.toNat, by omega⟩
  subst c4
  have hb : bs = enc 9 4 ++ txtB nm ++ enc 9 N := by
    have := hbs
    simp only [putV] at this
    simp [numS_nat, addS] at this
    simpa using this.symm
  have hl : bs.length = (enc 9 4).length + (txtB nm).length + (enc 9 N).length := by rw [hb]; simp only [List.length_append]
  have e : bs ++ rest = enc 9 4 ++ (txtB nm ++ (enc 9 N ++ rest)) := by rw [hb]; simp only [List.append_assoc]
  rw [e] at h hp
  have a0 := num_enc 4 (by omega) (txtB nm ++ (enc 9 N ++ rest)) pl 0 8 (by omega)
  have a1 := txt_enc nm 16 (by omega) (by omega) (enc 9 N ++ rest) (pl + (enc 9 4).length) 0
  have a2 := num_enc N (by omega) (rest) (pl + (enc 9 4).length + (txtB nm).length) 0 1099511627776 (by omega)
  have G := get4 h ht hp a0.1
  rw [a0.2, a1.1, a1.2, a2.1, a2.2, hchk, fail_zero] at G
  rw [hl]
  refine G.mono ?_
  rintro e w' ⟨rfl, rv', A⟩
  exact ⟨by rw [gotV, if_pos rfl], rv', by simpa only [Nat.add_assoc] using A⟩

theorem chk_5 {nm tx : ByteArray} {n m : Int} (h : chkA 5 nm.size tx.size n m = 0) : (1 ≤ (nm.size : Int) ∧ (nm.size : Int) ≤ 16) ∧ (1 ≤ (tx.size : Int) ∧ (tx.size : Int) ≤ 16) ∧ n = 0 ∧ m = 0 := by
  rw [chkA_in (by omega) (by omega)] at h
  simp only [chkT, formN, chkR, wr, ex, hs, hl] at h
  simp only [Int.reduceToNat, Nat.reduceMul, Nat.reduceAdd, List.getD_cons_succ, List.getD_cons_zero] at h
  repeat' (split at h)
  all_goals simp_all
  all_goals omega

theorem back5 {b : Nat} {D : Option Nat} {rv : Value} {cs : List Comp} {w : World} {nm tx : ByteArray} {n m : Int} {bs rest : List UInt8} {pl : Nat} (hchk : chkA 5 nm.size tx.size n m = 0) (hbs : putV 5 (some []) nm tx n m = some bs) (h : All (rdC b D rv ⟨bs ++ rest, pl, 0⟩ :: cs) w) (ht : ∀ w', All cs w' → Tab w') (hp : pl + (bs ++ rest).length ≤ 140737488355328) :
    Calls Tryz.prog 12 #[.pointer (some ⟨b, 0, none⟩)] w fun e w' => e = .returned (opV 5 nm tx n m) ∧ ∃ rv', All (rdC b D rv' ⟨rest, pl + bs.length, 0⟩ :: cs) w' := by
  obtain ⟨c1, c2, c3, c4⟩ := chk_5 hchk
  subst c3
  subst c4
  have hb : bs = enc 9 5 ++ txtB nm ++ txtB tx := by
    have := hbs
    simp only [putV] at this
    simp [addS] at this
    simpa using this.symm
  have hl : bs.length = (enc 9 5).length + (txtB nm).length + (txtB tx).length := by rw [hb]; simp only [List.length_append]
  have e : bs ++ rest = enc 9 5 ++ (txtB nm ++ (txtB tx ++ rest)) := by rw [hb]; simp only [List.append_assoc]
  rw [e] at h hp
  have a0 := num_enc 5 (by omega) (txtB nm ++ (txtB tx ++ rest)) pl 0 8 (by omega)
  have a1 := txt_enc nm 16 (by omega) (by omega) (txtB tx ++ rest) (pl + (enc 9 5).length) 0
  have a2 := txt_enc tx 16 (by omega) (by omega) (rest) (pl + (enc 9 5).length + (txtB nm).length) 0
  have G := get5 h ht hp a0.1
  rw [a0.2, a1.1, a1.2, a2.1, a2.2, hchk, fail_zero] at G
  rw [hl]
  refine G.mono ?_
  rintro e w' ⟨rfl, rv', A⟩
  exact ⟨by rw [gotV, if_pos rfl], rv', by simpa only [Nat.add_assoc] using A⟩

theorem chk_6 {nm tx : ByteArray} {n m : Int} (h : chkA 6 nm.size tx.size n m = 0) : (1 ≤ (nm.size : Int) ∧ (nm.size : Int) ≤ 16) ∧ (tx.size : Int) = 0 ∧ (0 ≤ n ∧ n ≤ 1099511627776) ∧ (1 ≤ m ∧ m ≤ 8) := by
  rw [chkA_in (by omega) (by omega)] at h
  simp only [chkT, formN, chkR, wr, ex, hs, hl] at h
  simp only [Int.reduceToNat, Nat.reduceMul, Nat.reduceAdd, List.getD_cons_succ, List.getD_cons_zero] at h
  repeat' (split at h)
  all_goals simp_all
  all_goals omega

theorem back6 {b : Nat} {D : Option Nat} {rv : Value} {cs : List Comp} {w : World} {nm tx : ByteArray} {n m : Int} {bs rest : List UInt8} {pl : Nat} (hchk : chkA 6 nm.size tx.size n m = 0) (hbs : putV 6 (some []) nm tx n m = some bs) (h : All (rdC b D rv ⟨bs ++ rest, pl, 0⟩ :: cs) w) (ht : ∀ w', All cs w' → Tab w') (hp : pl + (bs ++ rest).length ≤ 140737488355328) :
    Calls Tryz.prog 12 #[.pointer (some ⟨b, 0, none⟩)] w fun e w' => e = .returned (opV 6 nm tx n m) ∧ ∃ rv', All (rdC b D rv' ⟨rest, pl + bs.length, 0⟩ :: cs) w' := by
  obtain ⟨c1, c2, c3, c4⟩ := chk_6 hchk
  obtain rfl := emp_of c2
  obtain ⟨N, rfl⟩ : ∃ N : Nat, n = (N : Int) := ⟨n.toNat, by omega⟩
  obtain ⟨M, rfl⟩ : ∃ M : Nat, m = (M : Int) := ⟨m.toNat, by omega⟩
  have hb : bs = enc 9 6 ++ txtB nm ++ enc 9 N ++ enc 9 M := by
    have := hbs
    simp only [putV] at this
    simp [numS_nat, addS] at this
    simpa using this.symm
  have hl : bs.length = (enc 9 6).length + (txtB nm).length + (enc 9 N).length + (enc 9 M).length := by rw [hb]; simp only [List.length_append]
  have e : bs ++ rest = enc 9 6 ++ (txtB nm ++ (enc 9 N ++ (enc 9 M ++ rest))) := by rw [hb]; simp only [List.append_assoc]
  rw [e] at h hp
  have a0 := num_enc 6 (by omega) (txtB nm ++ (enc 9 N ++ (enc 9 M ++ rest))) pl 0 8 (by omega)
  have a1 := txt_enc nm 16 (by omega) (by omega) (enc 9 N ++ (enc 9 M ++ rest)) (pl + (enc 9 6).length) 0
  have a2 := num_enc N (by omega) (enc 9 M ++ rest) (pl + (enc 9 6).length + (txtB nm).length) 0 1099511627776 (by omega)
  have a3 := num_enc M (by omega) (rest) (pl + (enc 9 6).length + (txtB nm).length + (enc 9 N).length) 0 8 (by omega)
  have G := get6 h ht hp a0.1
  rw [a0.2, a1.1, a1.2, a2.1, a2.2, a3.1, a3.2, hchk, fail_zero] at G
  rw [hl]
  refine G.mono ?_
  rintro e w' ⟨rfl, rv', A⟩
  exact ⟨by rw [gotV, if_pos rfl], rv', by simpa only [Nat.add_assoc] using A⟩

theorem chk_7 {nm tx : ByteArray} {n m : Int} (h : chkA 7 nm.size tx.size n m = 0) : (1 ≤ (nm.size : Int) ∧ (nm.size : Int) ≤ 16) ∧ (tx.size : Int) = 0 ∧ n = 0 ∧ m = 0 := by
  rw [chkA_in (by omega) (by omega)] at h
  simp only [chkT, formN, chkR, wr, ex, hs, hl] at h
  simp only [Int.reduceToNat, Nat.reduceMul, Nat.reduceAdd, List.getD_cons_succ, List.getD_cons_zero] at h
  repeat' (split at h)
  all_goals simp_all
  all_goals omega

theorem back7 {b : Nat} {D : Option Nat} {rv : Value} {cs : List Comp} {w : World} {nm tx : ByteArray} {n m : Int} {bs rest : List UInt8} {pl : Nat} (hchk : chkA 7 nm.size tx.size n m = 0) (hbs : putV 7 (some []) nm tx n m = some bs) (h : All (rdC b D rv ⟨bs ++ rest, pl, 0⟩ :: cs) w) (ht : ∀ w', All cs w' → Tab w') (hp : pl + (bs ++ rest).length ≤ 140737488355328) :
    Calls Tryz.prog 12 #[.pointer (some ⟨b, 0, none⟩)] w fun e w' => e = .returned (opV 7 nm tx n m) ∧ ∃ rv', All (rdC b D rv' ⟨rest, pl + bs.length, 0⟩ :: cs) w' := by
  obtain ⟨c1, c2, c3, c4⟩ := chk_7 hchk
  obtain rfl := emp_of c2
  subst c3
  subst c4
  have hb : bs = enc 9 7 ++ txtB nm := by
    have := hbs
    simp only [putV] at this
    simp [addS] at this
    simpa using this.symm
  have hl : bs.length = (enc 9 7).length + (txtB nm).length := by rw [hb]; simp only [List.length_append]
  have e : bs ++ rest = enc 9 7 ++ (txtB nm ++ rest) := by rw [hb]; simp only [List.append_assoc]
  rw [e] at h hp
  have a0 := num_enc 7 (by omega) (txtB nm ++ rest) pl 0 8 (by omega)
  have a1 := txt_enc nm 16 (by omega) (by omega) (rest) (pl + (enc 9 7).length) 0
  have G := get7 h ht hp a0.1
  rw [a0.2, a1.1, a1.2, hchk, fail_zero] at G
  rw [hl]
  refine G.mono ?_
  rintro e w' ⟨rfl, rv', A⟩
  exact ⟨by rw [gotV, if_pos rfl], rv', by simpa only [Nat.add_assoc] using A⟩

theorem chk_8 {nm tx : ByteArray} {n m : Int} (h : chkA 8 nm.size tx.size n m = 0) : (nm.size : Int) = 0 ∧ (tx.size : Int) = 0 ∧ n = 0 ∧ m = 0 := by
  rw [chkA_in (by omega) (by omega)] at h
  simp only [chkT, formN, chkR, wr, ex, hs, hl] at h
  simp only [Int.reduceToNat, Nat.reduceMul, Nat.reduceAdd, List.getD_cons_succ, List.getD_cons_zero] at h
  repeat' (split at h)
  all_goals simp_all
  all_goals omega

theorem back8 {b : Nat} {D : Option Nat} {rv : Value} {cs : List Comp} {w : World} {nm tx : ByteArray} {n m : Int} {bs rest : List UInt8} {pl : Nat} (hchk : chkA 8 nm.size tx.size n m = 0) (hbs : putV 8 (some []) nm tx n m = some bs) (h : All (rdC b D rv ⟨bs ++ rest, pl, 0⟩ :: cs) w) (ht : ∀ w', All cs w' → Tab w') (hp : pl + (bs ++ rest).length ≤ 140737488355328) :
    Calls Tryz.prog 12 #[.pointer (some ⟨b, 0, none⟩)] w fun e w' => e = .returned (opV 8 nm tx n m) ∧ ∃ rv', All (rdC b D rv' ⟨rest, pl + bs.length, 0⟩ :: cs) w' := by
  obtain ⟨c1, c2, c3, c4⟩ := chk_8 hchk
  obtain rfl := emp_of c1
  obtain rfl := emp_of c2
  subst c3
  subst c4
  have hb : bs = enc 9 8 := by
    have := hbs
    simp only [putV] at this
    simp [addS] at this
    simpa using this.symm
  have hl : bs.length = (enc 9 8).length := by rw [hb]
  have e : bs ++ rest = enc 9 8 ++ rest := by rw [hb]
  rw [e] at h hp
  have a0 := num_enc 8 (by omega) (rest) pl 0 8 (by omega)
  have G := get8 h ht hp a0.1
  rw [a0.2, hchk, fail_zero] at G
  rw [hl]
  refine G.mono ?_
  rintro e w' ⟨rfl, rv', A⟩
  exact ⟨by rw [gotV, if_pos rfl], rv', by simpa only [Nat.add_assoc] using A⟩

theorem backOp {b : Nat} {D : Option Nat} {rv : Value} {cs : List Comp} {w : World} {k : Int} {nm tx : ByteArray} {n m : Int} {bs rest : List UInt8} {pl : Nat} (hchk : chkA k nm.size tx.size n m = 0) (hbs : putV k.toNat (some []) nm tx n m = some bs) (h : All (rdC b D rv ⟨bs ++ rest, pl, 0⟩ :: cs) w) (ht : ∀ w', All cs w' → Tab w') (hp : pl + (bs ++ rest).length ≤ 140737488355328) :
    Calls Tryz.prog 12 #[.pointer (some ⟨b, 0, none⟩)] w fun e w' => e = .returned (opV k nm tx n m) ∧ ∃ rv', All (rdC b D rv' ⟨rest, pl + bs.length, 0⟩ :: cs) w' := by
  have hk : 1 ≤ k ∧ k ≤ 8 := by
    by_cases hk : k < 1 ∨ 8 < k
    · rw [chkA_out hk] at hchk; omega
    · omega
  obtain rfl | rfl | rfl | rfl | rfl | rfl | rfl | rfl : k = 1 ∨ k = 2 ∨ k = 3 ∨ k = 4 ∨ k = 5 ∨ k = 6 ∨ k = 7 ∨ k = 8 := by omega
  · exact back1 hchk hbs h ht hp
  · exact back2 hchk hbs h ht hp
  · exact back3 hchk hbs h ht hp
  · exact back4 hchk hbs h ht hp
  · exact back5 hchk hbs h ht hp
  · exact back6 hchk hbs h ht hp
  · exact back7 hchk hbs h ht hp
  · exact back8 hchk hbs h ht hp

/-- An op that may be is small. -/
theorem chk_small {k : Int} {nm tx : ByteArray} {n m : Int} (h : chkA k nm.size tx.size n m = 0) : nm.size ≤ 16 ∧ tx.size ≤ 64 ∧ (0 ≤ n ∧ n ≤ 1099511627776) ∧ (0 ≤ m ∧ m ≤ 8) ∧ 1 ≤ k ∧ k ≤ 8 := by
  have hk : 1 ≤ k ∧ k ≤ 8 := by
    by_cases hk : k < 1 ∨ 8 < k
    · rw [chkA_out hk] at h; omega
    · omega
  obtain rfl | rfl | rfl | rfl | rfl | rfl | rfl | rfl : k = 1 ∨ k = 2 ∨ k = 3 ∨ k = 4 ∨ k = 5 ∨ k = 6 ∨ k = 7 ∨ k = 8 := by omega
  · have := chk_1 h; omega
  · have := chk_2 h; omega
  · have := chk_3 h; omega
  · have := chk_4 h; omega
  · have := chk_5 h; omega
  · have := chk_6 h; omega
  · have := chk_7 h; omega
  · have := chk_8 h; omega
end Go.Proofs.YtkcepkehgkkkbaaGreatDoor

namespace Go.Proofs.YtkcepkehgkkkbaaGreatDoor
open Go.RowKit
set_option linter.unusedVariables false

/-- What Close tells. -/
def Rst.close (r : Rst) : Int := if r.rs = [] then r.err else keepE r.err 15
theorem closeRdA {b : Nat} {D : Option Nat} {rv : Value} {r : Rst} {cs : List Comp} {w : World} (h : All (rdC b D rv r :: cs) w) : Calls Tryz.prog 22 #[.pointer (some ⟨b, 0, none⟩)] w fun e w' => e = .returned (.int .i64 r.close) ∧ ∃ rv', All (rdC b D rv' ⟨[], r.place, r.close⟩ :: cs) w' :=
  (Close_any h.1.2.1).mono fun e w' ⟨h1, ⟨rv', h2⟩, h3⟩ => ⟨h1, rv', h.rstep h2 h3⟩

/-- The document's reader, as a part. -/
def xrC (b : Nat) (v : Value) (B : List UInt8) (r : Rst) : Comp := ⟨fun w => XRd w b v B r.rs r.place r.err, b :: v.ownBlock.toList⟩
theorem xrC_good (b : Nat) (v : Value) (B : List UInt8) (r : Rst) : (xrC b v B r).Good := fun w w' h _ hk =>
  XRd.kept h (hk b (by simp [xrC])) (fun k hk' => hk k (by simp [xrC, hk']))
theorem All.xrstep {b : Nat} {v : Value} {B : List UInt8} {r r' : Rst} {cs : List Comp} {w w' : World} (h : All (xrC b v B r :: cs) w) (h1 : XRd w' b v B r'.rs r'.place r'.err) (h2 : Only b w w') : All (xrC b v B r' :: cs) w' := by
  refine h.turn ⟨h2.os, h2.tape, h2.output, h2.size, fun k hk hn => ?_⟩ (xrC_good _ _ _ _) h1 (fun k hk => Or.inl hk) (fun k hk => ?_)
  · simp [xrC] at hn
    exact h2.block k hk hn.1
  · simp [xrC] at hk
    rcases hk with rfl | hk
    · exact h1.1.lt
    · exact h1.1.own_lt k hk

theorem xnewRd {s : Value} {l : List UInt8} {cs : List Comp} {w : World} (h : All cs w) (hr : Reads w s l) (hlen : l.length ≤ 140737488355328) : Calls Tryz.prog 9 #[s] w fun e w' => ∃ b v, e = .returned (.pointer (some ⟨b, 0, none⟩)) ∧ All (xrC b v l ⟨l, 0, 0⟩ :: cs) w' :=
  (xnewr_any (.inl hr) hlen).mono fun e w' ⟨b, v, h1, h2, h3, h4, h5⟩ => ⟨b, v, h1, h.add (Fr.below h3) (xrC_good _ _ _ _) h2 (fun k hk => by
    simp only [xrC, List.mem_cons, Option.mem_toList] at hk
    rcases hk with rfl | hk
    · exact ⟨h4, h2.1.lt⟩
    · exact ⟨h5 k hk, h2.1.own_lt k hk⟩)⟩
theorem xnumRd {b : Nat} {v : Value} {B : List UInt8} {r : Rst} {cs : List Comp} {w : World} (h : All (xrC b v B r :: cs) w) (hp : B.length ≤ 140737488355328) (most : Int) : Calls Tryz.prog 11 #[.pointer (some ⟨b, 0, none⟩), .int .i64 most] w fun e w' => e = .returned (.int .i64 (r.numV most)) ∧ All (xrC b v B (r.num most) :: cs) w' :=
  (xNum_any h.1.2.1 hp most).mono fun e w' ⟨h1, h2, h3⟩ => ⟨h1, h.xrstep h2 h3⟩
theorem xtextRd {b : Nat} {v : Value} {B : List UInt8} {r : Rst} {cs : List Comp} {w : World} (h : All (xrC b v B r :: cs) w) (hp : B.length ≤ 140737488355328) (most : Int) : Calls Tryz.prog 58 #[.pointer (some ⟨b, 0, none⟩), .int .i64 most] w fun e w' => e = .returned (.string (r.txtV most)) ∧ All (xrC b v B (r.txt most) :: cs) w' :=
  (xText_any h.1.2.1 hp most).mono fun e w' ⟨h1, h2, h3⟩ => ⟨h1, h.xrstep h2 h3⟩
theorem xerrRd {b : Nat} {v : Value} {B : List UInt8} {r : Rst} {cs : List Comp} {w : World} (h : All (xrC b v B r :: cs) w) : Calls Tryz.prog 20 #[.pointer (some ⟨b, 0, none⟩)] w fun e w' => e = .returned (.tuple #[.int .i64 r.err, .int .i64 (r.place : Int)]) ∧ All (xrC b v B r :: cs) w' :=
  (xErr_any h.1.2.1).mono fun e w' ⟨h1, q, h2⟩ => ⟨h1, by rw [h2]; exact h.drewN q⟩
theorem xcloseRd {b : Nat} {v : Value} {B : List UInt8} {r : Rst} {cs : List Comp} {w : World} (h : All (xrC b v B r :: cs) w) (hp : B.length ≤ 140737488355328) : Calls Tryz.prog 23 #[.pointer (some ⟨b, 0, none⟩)] w fun e w' => e = .returned (.int .i64 r.close) ∧ All (xrC b v B ⟨[], r.place, r.close⟩ :: cs) w' :=
  (xClose_any h.1.2.1 hp).mono fun e w' ⟨h1, h2, h3⟩ => ⟨h1, h.xrstep h2 h3⟩

theorem res63 {tmps : Array Value} {w : World} {b : Nat} {c k : Int} {s : Value} (ht : tmps.getD 2 undef = .pointer (some ⟨b, 0, none⟩)) (h : w.heap[b]? = some (.cells #[.int .i64 c, .int .i64 k, s] 41 (0, 0))) : (results Tryz.f16 tmps).run Tryz.prog w = .ok (resV c k s) w := by
  have hp' : tmps[2]?.getD undef = .pointer (some ⟨b, 0, none⟩) := by simpa using ht
  have hres : Tryz.f16.results = #[.cell 2 41] := rfl
  have x0 : w.cell? ⟨b, 0, none⟩ = some (.int .i64 c) := by rw [cell_at h]; rfl
  have x1 : w.cell? ⟨b, 1, none⟩ = some (.int .i64 k) := by rw [cell_at h]; rfl
  have x2 : w.cell? ⟨b, 2, none⟩ = some s := by rw [cell_at h]; rfl
  simp only [results, hres]
  go_simp
/-- Four parts, turned: own, x, result, reader to reader, result, x, own, and back. -/
theorem rot4' (a b c d : Comp) (cs : List Comp) : List.Perm (a :: b :: c :: d :: cs) (d :: c :: b :: a :: cs) := by
  have h : List.Perm [a, b, c, d] [d, c, b, a] := (List.reverse_perm [d, c, b, a])
  exact h.append_right cs
theorem rot4b (a b c d : Comp) (cs : List Comp) : List.Perm (a :: b :: c :: d :: cs) (d :: c :: b :: a :: cs) := rot4' a b c d cs

set_option maxHeartbeats 3200000 in
set_option maxRecDepth 1000000 in
theorem xgetResult_any {b : Nat} {v : Value} {B : List UInt8} {r : Rst} {cs : List Comp} {w : World} (h : All (xrC b v B r :: cs) w) (hp : B.length ≤ 140737488355328) :
    Calls Tryz.prog 16 #[.pointer (some ⟨b, 0, none⟩)] w fun e w' => ∃ so sc, e = .returned (resV r.resV.c r.resV.k (.slice so r.resV.l.length sc)) ∧ All (ownC 9 (.slice so r.resV.l.length sc) (txtV r.resV.l) :: xrC b v B r.res :: cs) w' := by
  have HH := hid h
  clear h
  obtain ⟨i0, hi, hz0, hz1, hz2⟩ := info_parts Tryz.info9
  have A0 := hid (((HH.out.addBlk [.int .i64 0, .int .i64 0, .slice none 0 0] 41).addBlk [.int .i64 0, .int .i64 0, .slice none 0 0] 41).rev3)
  simp only [World.size_alloc] at A0
  clear HH
  go_enter Tryz.func16, Tryz.ntmps16
  go_wp2_with fail
  refine (xnumRd A0.out hp 4).mono ?_
  rintro e w1 ⟨rfl, A1⟩
  obtain ⟨c, hc⟩ : ∃ c, Hid (c = r.numV 4) := ⟨_, hid rfl⟩
  rw [← hc.out]
  have A1 := hid A1
  have erx : w1.heap[w.heap.size + 1]? = some (.cells #[.int .i64 0, .int .i64 0, .slice none 0 0] 41 (0, 0)) := A1.out.blk (vs := [.int .i64 0, .int .i64 0, .slice none 0 0]) (by simp)
  have x0 : w1.cell? ⟨w.heap.size + 1, 0, none⟩ = some (.int .i64 0) := by rw [cell_at erx]; rfl
  have x1 : w1.cell? ⟨w.heap.size + 1, 1, none⟩ = some (.int .i64 0) := by rw [cell_at erx]; rfl
  have x2 : w1.cell? ⟨w.heap.size + 1, 2, none⟩ = some (.slice none 0 0) := by rw [cell_at erx]; rfl
  have fx0 : w1.frozen? ⟨w.heap.size + 1, 0, none⟩ = false := free_at erx 0
  have fx1 : w1.frozen? ⟨w.heap.size + 1, 1, none⟩ = false := free_at erx 1
  have fx2 : w1.frozen? ⟨w.heap.size + 1, 2, none⟩ = false := free_at erx 2
  clear erx
  have A2 := hid (A1.out.rev3.setBlk 0 (.int .i64 c)).rev3
  clear A0 A1
  by_cases h0 : c = 0
  · have F : Hid (r.res0 = (⟨0, (r.num 4).numV 1099511627776, (((r.num 4).num 1099511627776).num 8 |>.items (((r.num 4).num 1099511627776).numV 8).toNat).1⟩, (((r.num 4).num 1099511627776).num 8 |>.items (((r.num 4).num 1099511627776).numV 8).toNat).2)) := hid (by rw [Rst.res0, if_pos (by rw [← hc.out]; exact h0)])
    subst h0
    go_wp2_with fail
    refine (xnumRd A2.out hp 1099511627776).mono ?_
    rintro e w2 ⟨rfl, A3⟩
    obtain ⟨kk, hkk⟩ : ∃ kk, Hid (kk = (r.num 4).numV 1099511627776) := ⟨_, hid rfl⟩
    obtain ⟨q2, hq2⟩ : ∃ q2, Hid (q2 = (r.num 4).num 1099511627776) := ⟨_, hid rfl⟩
    rw [← hkk.out, ← hq2.out] at F
    rw [← hq2.out] at A3
    rw [← hkk.out]
    have A3 := hid A3
    clear A2 x0 x1 x2 fx0 fx1 fx2
    have erx : w2.heap[w.heap.size + 1]? = some (.cells #[.int .i64 0, .int .i64 0, .slice none 0 0] 41 (0, 0)) := A3.out.blk (vs := [.int .i64 0, .int .i64 0, .slice none 0 0]) (by simp)
    have x0 : w2.cell? ⟨w.heap.size + 1, 0, none⟩ = some (.int .i64 0) := by rw [cell_at erx]; rfl
    have x1 : w2.cell? ⟨w.heap.size + 1, 1, none⟩ = some (.int .i64 0) := by rw [cell_at erx]; rfl
    have x2 : w2.cell? ⟨w.heap.size + 1, 2, none⟩ = some (.slice none 0 0) := by rw [cell_at erx]; rfl
    have fx0 : w2.frozen? ⟨w.heap.size + 1, 0, none⟩ = false := free_at erx 0
    have fx1 : w2.frozen? ⟨w.heap.size + 1, 1, none⟩ = false := free_at erx 1
    have fx2 : w2.frozen? ⟨w.heap.size + 1, 2, none⟩ = false := free_at erx 2
    clear erx
    have A4 := hid (A3.out.rev3.setBlk 1 (.int .i64 kk)).rev3
    clear A3
    go_wp2_with fail
    refine (xnumRd A4.out hp 8).mono ?_
    obtain ⟨N, hN⟩ : ∃ N : Nat, Hid (q2.numV 8 = (N : Int) ∧ N ≤ 8) := ⟨(q2.numV 8).toNat, hid (by
      have h1 := numR_val q2.rs 8 13
      have h2 := numR_le q2.rs 8 13 (by omega)
      unfold Rst.numV
      omega)⟩
    have eN : (q2.numV 8).toNat = N := by rw [hN.out.1]; simp
    obtain ⟨q8, hq8⟩ : ∃ q8, Hid (q8 = q2.num 8) := ⟨_, hid rfl⟩
    rw [eN, ← hq8.out] at F
    rw [hN.out.1, ← hq8.out]
    rintro e w3 ⟨rfl, A5⟩
    have A5 := hid (A5.rev3)
    have hN8 := hN.out.2
    clear A4 eN x0 x1 x2 fx0 fx1 fx2
    go_wp2
    go_loopw [5] (fun iv wr => ∃ (k : Nat) (so : Option Addr) (sc : Nat), iv = .int .i64 (k : Int) ∧ k ≤ N ∧ Hid (All (ownC 9 (.slice so k sc) (txtV (q8.items k).1) :: blkC (w.heap.size + 1) [.int .i64 0, .int .i64 kk, .slice so k sc] 41 :: blkC w.heap.size [.int .i64 0, .int .i64 0, .slice none 0 0] 41 :: xrC b v B (q8.items k).2 :: cs) wr)) (fun iv _ => N - (intOf iv).toNat)
    case atStart => exact ⟨0, none, 0, rfl, Nat.zero_le _, hid A5.out.addNil⟩
    case round =>
      obtain ⟨k, so, sc, rfl, hk, AR⟩ := hrel
      clear A5
      by_cases hlt : k < N
      case neg =>
        obtain rfl : k = N := by omega
        obtain ⟨LL, hLL⟩ : ∃ LL, Hid (LL = (q8.items k).1) := ⟨_, hid rfl⟩
        obtain ⟨q9, hq9⟩ : ∃ q9, Hid (q9 = (q8.items k).2) := ⟨_, hid rfl⟩
        have hnl : Hid (k = LL.length) := hid (by rw [hLL.out, items_len])
        rw [← hLL.out, ← hq9.out] at F AR
        have A6 := hid (AR.out.perm (rot4' _ _ _ _ cs))
        clear AR
        go_wp2_with fail
        refine (xerrRd A6.out).mono ?_
        rintro e w4 ⟨rfl, A7⟩
        have A7 := hid A7
        clear A6
        have erx : w4.heap[w.heap.size + 1]? = some (.cells #[.int .i64 0, .int .i64 kk, .slice so k sc] 41 (0, 0)) := A7.out.blk (vs := [.int .i64 0, .int .i64 kk, .slice so k sc]) (by simp)
        have x0 : w4.cell? ⟨w.heap.size + 1, 0, none⟩ = some (.int .i64 0) := by rw [cell_at erx]; rfl
        have x1 : w4.cell? ⟨w.heap.size + 1, 1, none⟩ = some (.int .i64 kk) := by rw [cell_at erx]; rfl
        have x2 : w4.cell? ⟨w.heap.size + 1, 2, none⟩ = some (.slice so k sc) := by rw [cell_at erx]; rfl
        have fx0 : w4.frozen? ⟨w.heap.size + 1, 0, none⟩ = false := free_at erx 0
        have fx1 : w4.frozen? ⟨w.heap.size + 1, 1, none⟩ = false := free_at erx 1
        have fx2 : w4.frozen? ⟨w.heap.size + 1, 2, none⟩ = false := free_at erx 2
        clear erx
        have err : w4.heap[w.heap.size]? = some (.cells #[.int .i64 0, .int .i64 0, .slice none 0 0] 41 (0, 0)) := A7.out.blk (g := w.heap.size) (vs := [.int .i64 0, .int .i64 0, .slice none 0 0]) (by simp)
        have r0 : w4.cell? ⟨w.heap.size, 0, none⟩ = some (.int .i64 0) := by rw [cell_at err]; rfl
        have r1 : w4.cell? ⟨w.heap.size, 1, none⟩ = some (.int .i64 0) := by rw [cell_at err]; rfl
        have r2 : w4.cell? ⟨w.heap.size, 2, none⟩ = some (.slice none 0 0) := by rw [cell_at err]; rfl
        have fr0 : w4.frozen? ⟨w.heap.size, 0, none⟩ = false := free_at err 0
        have fr1 : w4.frozen? ⟨w.heap.size, 1, none⟩ = false := free_at err 1
        have fr2 : w4.frozen? ⟨w.heap.size, 2, none⟩ = false := free_at err 2
        clear err
        by_cases he : q9.err = 0
        · have ee : (q9.err != 0) = false := by simpa using he
          have V : Hid (r.resV = ⟨0, kk, LL⟩ ∧ r.res = q9) := hid ⟨by rw [Rst.resV, F.out, if_pos he], by rw [Rst.res, F.out]⟩
          clear he F
          go_wp2
          have A8 := (((A7.out.swap.setBlk 0 (.int .i64 0)).setBlk 1 (.int .i64 kk)).setBlk 2 (.slice so k sc))
          refine bodyPost_ret (v := resV 0 kk (.slice so k sc)) (res63 (b := w.heap.size) rfl A8.1.2.1) rfl ?_
          refine ⟨so, sc, by rw [V.out.1, hnl.out], ?_⟩
          rw [V.out.1, V.out.2, ← hnl.out]
          exact (A8.tail.sublist (.cons_cons _ (.cons _ (.refl _)))).swap
        · have ee : (q9.err != 0) = true := by simpa using he
          have V : Hid (r.resV = ⟨0, 0, []⟩ ∧ r.res = q9) := hid ⟨by rw [Rst.resV, F.out, if_neg he], by rw [Rst.res, F.out]⟩
          clear he F
          go_wp2
          have A8 := (((A7.out.swap.setBlk 0 (.int .i64 0)).setBlk 1 (.int .i64 0)).setBlk 2 (.slice none 0 0))
          refine bodyPost_ret (v := resV 0 0 (.slice none 0 0)) (res63 (b := w.heap.size) rfl A8.1.2.1) rfl ?_
          refine ⟨none, 0, by rw [V.out.1]; rfl, ?_⟩
          rw [V.out.1, V.out.2]
          exact All.addNil (A8.tail.sublist (.cons_cons _ (.cons _ (.cons _ (.refl _)))))
      have el : decide ((k : Int) < (N : Int)) = true := by simpa using hlt
      have A6 := hid (AR.out.perm (rot4' _ _ _ _ cs))
      clear AR
      go_wp2_with fail
      refine (xtextRd A6.out hp 64).mono ?_
      rintro e w4 ⟨rfl, A7⟩
      obtain ⟨t, ht⟩ : ∃ t, Hid (t = (q8.items k).2.txtV 64) := ⟨_, hid rfl⟩
      rw [← ht.out]
      have A8 := A7.perm (rot4b _ _ _ _ cs)
      have A9 := hid (A8.alloc (.cells #[.string t] 9))
      have hrow : (w4.alloc (.cells #[.string t] 9)).ownsRow 0 9 1 (.slice so k sc) k (txtV (q8.items k).1) := by
        have h1 : (w4.alloc (.cells #[.string t] 9)).ownsRow 0 9 1 (.slice so k sc) (txtV (q8.items k).1).length (txtV (q8.items k).1) := A9.out.1.2.1
        rw [txtV_length, items_len] at h1
        exact h1
      have hnews : ∀ j u, [.string t][j]? = some u → (w4.alloc (.cells #[.string t] 9)).cell? ((⟨w4.heap.size, 0, none⟩ : Addr).add j) = some u := by
        intro j u hu
        rw [Addr.add_lit, cell_at (heap_alloc_new w4 _)]
        cases j with
        | zero => simpa using hu
        | succ j => simp at hu
      have hone : ∀ u ∈ [Value.string t], u.oneCell' = true := by
        intro u hu
        simp only [List.mem_singleton] at hu
        subst hu
        rfl
      have A8h := hid A8
      have erx : w4.heap[w.heap.size + 1]? = some (.cells #[.int .i64 0, .int .i64 kk, .slice so k sc] 41 (0, 0)) := A8h.out.blk (vs := [.int .i64 0, .int .i64 kk, .slice so k sc]) (by simp)
      have x0 : w4.cell? ⟨w.heap.size + 1, 0, none⟩ = some (.int .i64 0) := by rw [cell_at erx]; rfl
      have x1 : w4.cell? ⟨w.heap.size + 1, 1, none⟩ = some (.int .i64 kk) := by rw [cell_at erx]; rfl
      have x2 : w4.cell? ⟨w.heap.size + 1, 2, none⟩ = some (.slice so k sc) := by rw [cell_at erx]; rfl
      have fx0 : w4.frozen? ⟨w.heap.size + 1, 0, none⟩ = false := free_at erx 0
      have fx1 : w4.frozen? ⟨w.heap.size + 1, 1, none⟩ = false := free_at erx 1
      have fx2 : w4.frozen? ⟨w.heap.size + 1, 2, none⟩ = false := free_at erx 2
      clear erx
      have hxl : w.heap.size + 1 < w4.heap.size := by
        have := (A8h.out.mem (c := blkC (w.heap.size + 1) [.int .i64 0, .int .i64 kk, .slice so k sc] 41) (by simp)).2.2 (w.heap.size + 1) (by simp [blkC])
        exact this
      clear A6 A7 A8 A8h
      go_wp2_with (at_builtin; refine wpList_append_own_at _ rfl (.tmp 29) (.tmp 31) 39 rfl 0 9 i0 (.string (.mk #[])) 1 16 Tryz.underlying39 hi hz0 hz1 hz2 rfl (by decide) _ _ _ rfl hrow ⟨w4.heap.size, 0, none⟩ 1 1 [.string t] rfl rfl hnews hone (by unfold maxLen; omega) (by omega) (by simp) ?_)
      intro v' w5 hown hgr _ hat
      have A10 := A9.out.ownGrow (vs' := txtV (q8.items (k + 1)).1) (base := 0) (v' := v') (by
        rw [txtV_length, items_len]
        simpa [Rst.items, txtV, ← ht.out] using hown) hgr (by simpa using hat)
      obtain ⟨so', sc', rfl⟩ := owns_form hown
      have A11 := hid A10
      clear hown hgr hat A9 A10 hrow hnews hone x0 x1 x2 fx0 fx1 fx2
      have erx : w5.heap[w.heap.size + 1]? = some (.cells #[.int .i64 0, .int .i64 kk, .slice so k sc] 41 (0, 0)) := A11.out.blk (vs := [.int .i64 0, .int .i64 kk, .slice so k sc]) (by simp)
      have x0 : w5.cell? ⟨w.heap.size + 1, 0, none⟩ = some (.int .i64 0) := by rw [cell_at erx]; rfl
      have x1 : w5.cell? ⟨w.heap.size + 1, 1, none⟩ = some (.int .i64 kk) := by rw [cell_at erx]; rfl
      have x2 : w5.cell? ⟨w.heap.size + 1, 2, none⟩ = some (.slice so k sc) := by rw [cell_at erx]; rfl
      have fx0 : w5.frozen? ⟨w.heap.size + 1, 0, none⟩ = false := free_at erx 0
      have fx1 : w5.frozen? ⟨w.heap.size + 1, 1, none⟩ = false := free_at erx 1
      have fx2 : w5.frozen? ⟨w.heap.size + 1, 2, none⟩ = false := free_at erx 2
      clear erx
      have A12 := hid (A11.out.swap.setBlk 2 (.slice so' (k + 1) sc')).swap
      clear A11
      go_wp2
      go_roundw
      case rel => exact ⟨k + 1, so', sc', by go_num, by omega, A12⟩
      case measure => simp [intOf]; omega
  · have F : Hid (r.res0 = (⟨c, 0, []⟩, r.num 4)) := hid (by rw [Rst.res0, if_neg (by rw [← hc.out]; exact h0), hc.out])
    have ec : (c == 0) = false := by simpa using h0
    go_wp2_with fail
    refine (xerrRd A2.out).mono ?_
    rintro e w4 ⟨rfl, A7⟩
    have A7 := hid A7
    clear A2 x0 x1 x2 fx0 fx1 fx2
    have erx : w4.heap[w.heap.size + 1]? = some (.cells #[.int .i64 c, .int .i64 0, .slice none 0 0] 41 (0, 0)) := A7.out.blk (vs := [.int .i64 c, .int .i64 0, .slice none 0 0]) (by simp)
    have x0 : w4.cell? ⟨w.heap.size + 1, 0, none⟩ = some (.int .i64 c) := by rw [cell_at erx]; rfl
    have x1 : w4.cell? ⟨w.heap.size + 1, 1, none⟩ = some (.int .i64 0) := by rw [cell_at erx]; rfl
    have x2 : w4.cell? ⟨w.heap.size + 1, 2, none⟩ = some (.slice none 0 0) := by rw [cell_at erx]; rfl
    have fx0 : w4.frozen? ⟨w.heap.size + 1, 0, none⟩ = false := free_at erx 0
    have fx1 : w4.frozen? ⟨w.heap.size + 1, 1, none⟩ = false := free_at erx 1
    have fx2 : w4.frozen? ⟨w.heap.size + 1, 2, none⟩ = false := free_at erx 2
    clear erx
    have err : w4.heap[w.heap.size]? = some (.cells #[.int .i64 0, .int .i64 0, .slice none 0 0] 41 (0, 0)) := A7.out.blk (g := w.heap.size) (vs := [.int .i64 0, .int .i64 0, .slice none 0 0]) (by simp)
    have r0 : w4.cell? ⟨w.heap.size, 0, none⟩ = some (.int .i64 0) := by rw [cell_at err]; rfl
    have r1 : w4.cell? ⟨w.heap.size, 1, none⟩ = some (.int .i64 0) := by rw [cell_at err]; rfl
    have r2 : w4.cell? ⟨w.heap.size, 2, none⟩ = some (.slice none 0 0) := by rw [cell_at err]; rfl
    have fr0 : w4.frozen? ⟨w.heap.size, 0, none⟩ = false := free_at err 0
    have fr1 : w4.frozen? ⟨w.heap.size, 1, none⟩ = false := free_at err 1
    have fr2 : w4.frozen? ⟨w.heap.size, 2, none⟩ = false := free_at err 2
    clear err
    by_cases he : (r.num 4).err = 0
    · have ee : ((r.num 4).err != 0) = false := by simpa using he
      have V : Hid (r.resV = ⟨c, 0, []⟩ ∧ r.res = (r.num 4)) := hid ⟨by rw [Rst.resV, F.out, if_pos he], by rw [Rst.res, F.out]⟩
      clear he F
      go_wp2
      have A8 := (((A7.out.swap.setBlk 0 (.int .i64 c)).setBlk 1 (.int .i64 0)).setBlk 2 (.slice none 0 0))
      refine bodyPost_ret (v := resV c 0 (.slice none 0 0)) (res63 (b := w.heap.size) rfl A8.1.2.1) rfl ?_
      refine ⟨none, 0, by rw [V.out.1]; rfl, ?_⟩
      rw [V.out.1, V.out.2]
      exact All.addNil (A8.tail.sublist (.cons_cons _ (.cons _ (.refl _))))
    · have ee : ((r.num 4).err != 0) = true := by simpa using he
      have V : Hid (r.resV = ⟨0, 0, []⟩ ∧ r.res = (r.num 4)) := hid ⟨by rw [Rst.resV, F.out, if_neg he], by rw [Rst.res, F.out]⟩
      clear he F
      go_wp2
      have A8 := (((A7.out.swap.setBlk 0 (.int .i64 0)).setBlk 1 (.int .i64 0)).setBlk 2 (.slice none 0 0))
      refine bodyPost_ret (v := resV 0 0 (.slice none 0 0)) (res63 (b := w.heap.size) rfl A8.1.2.1) rfl ?_
      refine ⟨none, 0, by rw [V.out.1]; rfl, ?_⟩
      rw [V.out.1, V.out.2]
      exact All.addNil (A8.tail.sublist (.cons_cons _ (.cons _ (.refl _))))

end Go.Proofs.YtkcepkehgkkkbaaGreatDoor

namespace Go.Proofs.YtkcepkehgkkkbaaGreatDoor
open Go.RowKit
set_option linter.unusedVariables false

set_option maxRecDepth 1000000 in
/-- An op that may not be breaks the writer. -/
theorem put_bad {b : Nat} {v : Value} {st : Option (List UInt8)} {cs : List Comp} {w : World} (h : All (wrC b v st :: cs) w) (ht : ∀ w', All cs w' → Tab w') (k : Int) (nm tx : ByteArray) (n m : Int) (h0 : chkA k nm.size tx.size n m ≠ 0) (hlen : lenS st + 10 ≤ 140737488355328) :
    Calls Tryz.prog 27 #[.pointer (some ⟨b, 0, none⟩), opV k nm tx n m] w fun e w' => e = .returned (.tuple #[]) ∧ ∃ v', All (wrC b v' none :: cs) w' := by
  have A := hid (h.addBlk [.int .i64 k, .string nm, .string tx, .int .i64 n, .int .i64 m] 35)
  have HT := hid ht
  have H0 := hid h0
  clear h ht h0
  go_enter Tryz.func27, Tryz.ntmps27
  go_wp2_with fail
  refine (check_any (HT.out _ A.out.tail.tail) k nm tx n m).mono ?_
  rintro e w1 ⟨rfl, B⟩
  have A := hid (A.out.later B)
  clear B
  have h0 := H0.out
  generalize chkA k nm.size tx.size n m = ck at h0 ⊢
  have e0 : (ck != 0) = true := by simpa using h0
  clear h0 H0
  go_wp2_with fail
  refine (numW A.out.swap (-1) (by omega) hlen).mono ?_
  rintro e w2 ⟨rfl, v2, A2⟩
  have A2 := hid A2
  clear A
  go_wp2
  refine bodyPost_ret (results_none rfl _ _ _) rfl ?_
  exact ⟨rfl, v2, A2.out.swap.tail⟩
set_option maxRecDepth 1000000 in
/-- A result that may not be breaks the writer. -/
theorem putR_bad {b : Nat} {v : Value} {st : Option (List UInt8)} {s : Value} {l : List ByteArray} {cs : List Comp} {w : World} (h : All (wrC b v st :: cs) w) (hT : ∀ w', All cs w' → Txts w' s l) (c n : Int) (h0 : chkX c n l ≠ 0) (hl : l.length ≤ 9223372036854775807) (hlen : lenS st + 10 ≤ 140737488355328) :
    Calls Tryz.prog 28 #[.pointer (some ⟨b, 0, none⟩), resV c n s] w fun e w' => e = .returned (.tuple #[]) ∧ ∃ v', All (wrC b v' none :: cs) w' := by
  obtain ⟨ao, cp, rfl⟩ := (hT w h.tail).form
  have A := hid (h.addBlk [.int .i64 c, .int .i64 n, .slice ao l.length cp] 41)
  have HT := hid hT
  have H0 := hid h0
  clear h hT h0
  go_enter Tryz.func28, Tryz.ntmps28
  go_wp2_with fail
  refine (checkX_any c n (HT.out _ A.out.tail.tail) hl).mono ?_
  rintro e w1 ⟨rfl, B⟩
  have A := hid (A.out.later B)
  clear B
  have h0 := H0.out
  generalize chkX c n l = ck at h0 ⊢
  have e0 : (ck != 0) = true := by simpa using h0
  clear h0 H0
  go_wp2_with fail
  refine (numW A.out.swap (-1) (by omega) hlen).mono ?_
  rintro e w2 ⟨rfl, v2, A2⟩
  have A2 := hid A2
  clear A
  go_wp2
  refine bodyPost_ret (results_none rfl _ _ _) rfl ?_
  exact ⟨rfl, v2, A2.out.swap.tail⟩

theorem chkX_small {c n : Int} {l : List ByteArray} (h : chkX c n l = 0) : (0 ≤ c ∧ c ≤ 4) ∧ (0 ≤ n ∧ n ≤ 1099511627776) ∧ (c ≠ 0 → n = 0 ∧ l = []) ∧ l.length ≤ 8 ∧ (∀ t ∈ l, t.size ≤ 64) := by
  unfold chkX at h
  split at h
  · omega
  · split at h
    · omega
    · rename_i h1
      split at h
      · omega
      · split at h
        · omega
        · split at h
          · omega
          · rename_i h4
            refine ⟨by omega, by omega, fun hc => ⟨?_, ?_⟩, by omega, fun t ht => ?_⟩
            · exact Classical.byContradiction fun hh => h1 ⟨hc, Or.inl hh⟩
            · exact Classical.byContradiction fun hh => h1 ⟨hc, Or.inr hh⟩
            · exact Classical.byContradiction fun hh => h4 ⟨t, ht, by omega⟩
theorem numS_none (n : Int) : numS none n = none := by unfold numS; split <;> simp [addS]
theorem putX_none (c n : Int) (l : List ByteArray) : putX none c n l = none := by
  unfold putX
  split
  · split
    · rw [numS_none, numS_none]; rfl
    · exact numS_none c
  · rfl
theorem bulk_few {l : List ByteArray} (h : l.length ≤ 8) (h64 : ∀ t ∈ l, t.size ≤ 64) : bulkT l ≤ 1000 := by
  have : ∀ l : List ByteArray, (∀ t ∈ l, t.size ≤ 64) → bulkT l ≤ 74 * l.length := by
    intro l
    induction l with
    | nil => intro _; simp [bulkT]
    | cons t l ih =>
      intro hh
      have h1 := ih (fun x hx => hh x (by simp [hx]))
      have h2 := hh t (by simp)
      simp only [bulkT, List.map_cons, List.sum_cons, List.length_cons] at h1 ⊢
      omega
  have := this l h64
  omega

/-- PutResult of any result. -/
theorem putR_all {b : Nat} {v : Value} {st : Option (List UInt8)} {s : Value} {l : List ByteArray} {cs : List Comp} {w : World} (h : All (wrC b v st :: cs) w) (hT : ∀ w', All cs w' → Txts w' s l) (c n : Int) (hl : l.length ≤ 9223372036854775807) (hlen : lenS st + 2000 ≤ 140737488355328) :
    Calls Tryz.prog 28 #[.pointer (some ⟨b, 0, none⟩), resV c n s] w fun e w' => e = .returned (.tuple #[]) ∧ ∃ v', All (wrC b v' (putX st c n l) :: cs) w' := by
  by_cases h0 : chkX c n l = 0
  · obtain ⟨h1, h2, h3, h4, h5⟩ := chkX_small h0
    have := bulk_few h4 h5
    exact putR_any h hT c n (by omega) (by omega) (by omega) (by omega)
  · rw [show putX st c n l = none by unfold putX; rw [if_neg h0]]
    exact putR_bad h hT c n h0 hl (by omega)
/-- PutOp of any op. -/
theorem putO_all {b : Nat} {v : Value} {st : Option (List UInt8)} {cs : List Comp} {w : World} (h : All (wrC b v st :: cs) w) (ht : ∀ w', All cs w' → Tab w') (k : Int) (nm tx : ByteArray) (n m : Int) (hlen : lenS st + 2000 ≤ 140737488355328) :
    Calls Tryz.prog 27 #[.pointer (some ⟨b, 0, none⟩), opV k nm tx n m] w fun e w' => e = .returned (.tuple #[]) ∧ ∃ v', All (wrC b v' (putA k st nm tx n m) :: cs) w' := by
  by_cases h0 : chkA k nm.size tx.size n m = 0
  · obtain ⟨h1, h2, h3, h4, _⟩ := chk_small h0
    exact putO_any h ht k nm tx n m (by omega) (by omega) (by omega)
  · rw [show putA k st nm tx n m = none by unfold putA; rw [if_neg h0]]
    exact put_bad h ht k nm tx n m h0 (by omega)

theorem closeRd {b : Nat} {D : Option Nat} {rv : Value} {pl : Nat} {cs : List Comp} {w : World} (h : All (rdC b D rv ⟨[], pl, 0⟩ :: cs) w) : Calls Tryz.prog 22 #[.pointer (some ⟨b, 0, none⟩)] w fun e w' => e = .returned (.int .i64 0) ∧ ∃ rv', All (rdC b D rv' ⟨[], pl, 0⟩ :: cs) w' := by
  refine (Close_any h.1.2.1).mono ?_
  rw [if_pos rfl]
  rintro e w' ⟨h1, ⟨rv', h2⟩, h3⟩
  exact ⟨h1, rv', h.rstep h2 h3⟩

set_option maxHeartbeats 1600000 in
set_option maxRecDepth 1000000 in
theorem sameOp_true {w : World} (k : Int) (nm tx : ByteArray) (n m : Int) : Calls Tryz.prog 14 #[opV k nm tx n m, opV k nm tx n m] w fun e w' => e = .returned (.bool true) ∧ Below w.heap.size w w' := by
  have e0 : (k == k) = true := by simp
  have e1 : (nm.toList == nm.toList) = true := by simp
  have e2 : (tx.toList == tx.toList) = true := by simp
  have e3 : (n == n) = true := by simp
  have e4 : (m == m) = true := by simp
  have B := hid (b2 (ba w (opB k nm tx n m)) (ba (w.alloc (opB k nm tx n m)) (opB k nm tx n m)))
  have h1 := heap_alloc_new w (opB k nm tx n m)
  have h2 := heap_alloc_new (w.alloc (opB k nm tx n m)) (opB k nm tx n m)
  go_enter Tryz.func14, Tryz.ntmps14
  go_wp2
  go_ret
  exact ⟨rfl, B.out⟩

theorem putX_some {c n : Int} {l : List ByteArray} (h : chkX c n l = 0) (a : List UInt8) : putX (some a) c n l = some (a ++ (enc 9 c.toNat ++ if c = 0 then enc 9 n.toNat ++ itemsB l else [])) := by
  obtain ⟨h1, h2, _⟩ := chkX_small h
  unfold putX
  rw [if_pos h]
  have e1 := numS_nat (some a) c.toNat
  rw [show ((c.toNat : Nat) : Int) = c by omega] at e1
  rw [e1]
  split
  · have e2 := numS_nat (addS (some a) (enc 9 c.toNat)) n.toNat
    rw [show ((n.toNat : Nat) : Int) = n by omega] at e2
    rw [e2]
    simp [addS]
  · simp [addS]
theorem putV_some {k : Int} {nm tx : ByteArray} {n m : Int} (h : chkA k nm.size tx.size n m = 0) : ∃ bs, putV k.toNat (some []) nm tx n m = some bs ∧ putA k (some []) nm tx n m = some bs ∧ bs.length ≤ 200 := by
  obtain ⟨h1, h2, h3, h4, h5⟩ := chk_small h
  have hl := putA_len k (some []) nm tx n m
  have e : putA k (some []) nm tx n m = putV k.toNat (some []) nm tx n m := by unfold putA; rw [if_pos h]
  obtain ⟨N, rfl⟩ : ∃ N : Nat, n = (N : Int) := ⟨n.toNat, by omega⟩
  obtain ⟨M, rfl⟩ : ∃ M : Nat, m = (M : Int) := ⟨m.toNat, by omega⟩
  have hex : ∃ bs, putV k.toNat (some []) nm tx N M = some bs := by
    unfold putV
    repeat' split
    all_goals simp [numS_nat, addS]
  obtain ⟨bs, hb⟩ := hex
  rw [e, hb] at hl
  simp only [lenS] at hl
  have := List.length_nil (α := UInt8)
  exact ⟨bs, hb, by rw [e, hb], by omega⟩
theorem rbytes_len {c n : Int} {l : List ByteArray} (h : chkX c n l = 0) : (enc 9 c.toNat ++ if c = 0 then enc 9 n.toNat ++ itemsB l else []).length ≤ 2000 := by
  obtain ⟨h1, h2, h3, h4, h5⟩ := chkX_small h
  have b1 := bulk_few h4 h5
  have b2 := itemsB_len l
  have b3 := enc_len 9 c.toNat
  have b4 := enc_len 9 n.toNat
  rw [List.length_append]
  split
  · rw [List.length_append]; omega
  · simp; omega

set_option maxHeartbeats 3200000 in
set_option maxRecDepth 1000000 in
theorem back_any {w : World} (hT : Tab w) (k : Int) (nm tx : ByteArray) (n m : Int) (c x : Int) {s : Value} {l : List ByteArray} (hs : Txts w s l) (hl : l.length ≤ 9223372036854775807) :
    Calls Tryz.prog 4 #[opV k nm tx n m, resV c x s] w fun e w' => e = .returned (.bool true) ∧ Below w.heap.size w w' := by
  obtain ⟨ao, cp, rfl⟩ := hs.form
  have HT := hid hT
  have HS := hid hs
  have A := hid (((All.came w).addBlk [.int .i64 k, .string nm, .string tx, .int .i64 n, .int .i64 m] 35).addBlk [.int .i64 c, .int .i64 x, .slice ao l.length cp] 41)
  have hsz : (w.alloc (.cells [Value.int .i64 k, .string nm, .string tx, .int .i64 n, .int .i64 m].toArray 35)).heap.size = w.heap.size + 1 := by simp
  rw [hsz] at A
  clear hs hT hsz
  go_enter Tryz.func4, Tryz.ntmps4
  go_wp2_with fail
  refine (shown_any (HT.out.below (A.out.into (by simp)))).mono ?_
  rintro e w1 ⟨rfl, B1⟩
  have A := hid (A.out.later B1)
  clear B1
  go_wp2_with fail
  refine (newW A.out).mono ?_
  rintro e w2 ⟨b, rfl, A2⟩
  have A := hid A2
  clear A2
  have hb := A.out.blk (g := w.heap.size) (vs := [.int .i64 k, .string nm, .string tx, .int .i64 n, .int .i64 m]) (t := 35) mem3
  have o0 : w2.cell? ⟨w.heap.size, 0, none⟩ = some (.int .i64 k) := by rw [cell_at hb]; rfl
  have o1 : w2.cell? ⟨w.heap.size, 1, none⟩ = some (.string nm) := by rw [cell_at hb]; rfl
  have o2 : w2.cell? ⟨w.heap.size, 2, none⟩ = some (.string tx) := by rw [cell_at hb]; rfl
  have o3 : w2.cell? ⟨w.heap.size, 3, none⟩ = some (.int .i64 n) := by rw [cell_at hb]; rfl
  have o4 : w2.cell? ⟨w.heap.size, 4, none⟩ = some (.int .i64 m) := by rw [cell_at hb]; rfl
  clear hb
  go_wp2_with fail
  refine (putO_all A.out (fun w' h' => HT.out.below (h'.into (by simp))) k nm tx n m (by simp [lenS])).mono ?_
  rintro e w3 ⟨rfl, v3, A3⟩
  have A := hid A3
  clear A3 o0 o1 o2 o3 o4
  have L1 := hid (show lenS (putA k (some []) nm tx n m) ≤ 200 by
    by_cases h0 : chkA k nm.size tx.size n m = 0
    · obtain ⟨bs, _, h2, h3⟩ := putV_some h0
      rw [h2]; exact h3
    · unfold putA; rw [if_neg h0]; simp [lenS])
  have hb := A.out.blk (g := w.heap.size + 1) (vs := [.int .i64 c, .int .i64 x, .slice ao l.length cp]) (t := 41) mem2
  have o0 : w3.cell? ⟨w.heap.size + 1, 0, none⟩ = some (.int .i64 c) := by rw [cell_at hb]; rfl
  have o1 : w3.cell? ⟨w.heap.size + 1, 1, none⟩ = some (.int .i64 x) := by rw [cell_at hb]; rfl
  have o2 : w3.cell? ⟨w.heap.size + 1, 2, none⟩ = some (.slice ao l.length cp) := by rw [cell_at hb]; rfl
  clear hb
  go_wp2_with fail
  refine (putR_all (l := l) A.out (fun w' h' => HS.out.later (h'.into (by simp))) c x hl (by have := L1.out; omega)).mono ?_
  rintro e w4 ⟨rfl, v4, A4⟩
  have A := hid A4
  clear A4 o0 o1 o2 L1
  by_cases hall : chkA k nm.size tx.size n m = 0 ∧ chkX c x l = 0
  case neg =>
    have hst : putX (putA k (some []) nm tx n m) c x l = none := by
      by_cases h0 : chkA k nm.size tx.size n m = 0
      · have h1 : chkX c x l ≠ 0 := fun h1 => hall ⟨h0, h1⟩
        unfold putX; rw [if_neg h1]
      · rw [show putA k (some []) nm tx n m = none by unfold putA; rw [if_neg h0]]
        exact putX_none c x l
    rw [hst] at A
    have HALL := hid hall
    clear hst hall
    go_wp2_with fail
    refine (done_broken A.out.1.2.1).mono ?_
    rintro e w5 ⟨rfl, rfl⟩
    have hb := A.out.blk (g := w.heap.size) (vs := [.int .i64 k, .string nm, .string tx, .int .i64 n, .int .i64 m]) (t := 35) mem3
    have o0 : w5.cell? ⟨w.heap.size, 0, none⟩ = some (.int .i64 k) := by rw [cell_at hb]; rfl
    have o1 : w5.cell? ⟨w.heap.size, 1, none⟩ = some (.string nm) := by rw [cell_at hb]; rfl
    have o2 : w5.cell? ⟨w.heap.size, 2, none⟩ = some (.string tx) := by rw [cell_at hb]; rfl
    have o3 : w5.cell? ⟨w.heap.size, 3, none⟩ = some (.int .i64 n) := by rw [cell_at hb]; rfl
    have o4 : w5.cell? ⟨w.heap.size, 4, none⟩ = some (.int .i64 m) := by rw [cell_at hb]; rfl
    clear hb
    go_wp2_with fail
    refine (check_any (HT.out.below (A.out.into (by simp))) k nm tx n m).mono ?_
    rintro e w6 ⟨rfl, B6⟩
    have A := hid (A.out.later B6)
    clear B6 o0 o1 o2 o3 o4
    have hb := A.out.blk (g := w.heap.size + 1) (vs := [.int .i64 c, .int .i64 x, .slice ao l.length cp]) (t := 41) mem2
    have o0 : w6.cell? ⟨w.heap.size + 1, 0, none⟩ = some (.int .i64 c) := by rw [cell_at hb]; rfl
    have o1 : w6.cell? ⟨w.heap.size + 1, 1, none⟩ = some (.int .i64 x) := by rw [cell_at hb]; rfl
    have o2 : w6.cell? ⟨w.heap.size + 1, 2, none⟩ = some (.slice ao l.length cp) := by rw [cell_at hb]; rfl
    clear hb
    go_wp2_with fail
    refine (checkX_any (l := l) c x (HS.out.later (A.out.into (by simp))) hl).mono ?_
    rintro e w7 ⟨rfl, B7⟩
    have A := hid (A.out.later B7)
    clear B7 o0 o1 o2
    have hall := HALL.out
    generalize chkA k nm.size tx.size n m = c1 at hall ⊢
    generalize chkX c x l = c2 at hall ⊢
    by_cases h1 : c1 = 0
    · have e1 : (c1 != 0) = false := by simpa using h1
      have e2 : (c2 != 0) = true := by simpa using fun h2 => hall ⟨h1, h2⟩
      clear hall h1 HALL
      go_wp2
      go_ret
      exact ⟨rfl, A.out.into (by simp)⟩
    · have e1 : (c1 != 0) = true := by simpa using h1
      clear hall h1 HALL
      go_wp2
      go_ret
      exact ⟨rfl, A.out.into (by simp)⟩
  obtain ⟨h1, h2⟩ := hall
  obtain ⟨bs1, p1, p2, p3⟩ := putV_some h1
  rw [p2, putX_some h2] at A
  have L2 := rbytes_len h2
  obtain ⟨q1, q2, q3, q4, q5⟩ := chkX_small h2
  have RE := hid (res_enc q1.1 q1.2 q2.1 q2.2 q3 q4 q5 (0 + bs1.length))
  generalize hbs2 : (enc 9 c.toNat ++ if c = 0 then enc 9 x.toNat ++ itemsB l else []) = bs2 at A L2 RE
  have hll : (bs1 ++ bs2).length ≤ 3000 := by rw [List.length_append]; omega
  have H1 := hid h1
  have H2 := hid h2
  have P1 := hid p1
  have Q4 := hid q4
  clear h1 h2 p1 p2 p3 q1 q2 q3 q4 q5 hbs2 L2
  generalize hB : bs1 ++ bs2 = bb at A hll
  have HB := hid hB
  clear hB
  go_wp2_with fail
  refine (doneW A.out (by omega)).mono ?_
  rintro e w5 ⟨so, sc, rfl, A5⟩
  have A := hid A5
  clear A5
  have h5 : w5.ownsRow 0 5 1 (.slice so bb.length sc) (cellsB bb).length (cellsB bb) := A.out.1.2.1
  rw [cellsB_length] at h5
  have RA := hid (Reads.of_owns h5)
  clear h5
  have hb := A.out.blk (g := w.heap.size) (vs := [.int .i64 k, .string nm, .string tx, .int .i64 n, .int .i64 m]) (t := 35) mem4
  have o0 : w5.cell? ⟨w.heap.size, 0, none⟩ = some (.int .i64 k) := by rw [cell_at hb]; rfl
  have o1 : w5.cell? ⟨w.heap.size, 1, none⟩ = some (.string nm) := by rw [cell_at hb]; rfl
  have o2 : w5.cell? ⟨w.heap.size, 2, none⟩ = some (.string tx) := by rw [cell_at hb]; rfl
  have o3 : w5.cell? ⟨w.heap.size, 3, none⟩ = some (.int .i64 n) := by rw [cell_at hb]; rfl
  have o4 : w5.cell? ⟨w.heap.size, 4, none⟩ = some (.int .i64 m) := by rw [cell_at hb]; rfl
  clear hb
  go_wp2_with fail
  refine (check_any (HT.out.below (A.out.into (by simp))) k nm tx n m).mono ?_
  rw [H1.out]
  rintro e w6 ⟨rfl, B6⟩
  have A := hid (A.out.later B6)
  have RA := hid (RA.out.below B6)
  clear B6 o0 o1 o2 o3 o4
  have hb := A.out.blk (g := w.heap.size + 1) (vs := [.int .i64 c, .int .i64 x, .slice ao l.length cp]) (t := 41) mem3
  have o0 : w6.cell? ⟨w.heap.size + 1, 0, none⟩ = some (.int .i64 c) := by rw [cell_at hb]; rfl
  have o1 : w6.cell? ⟨w.heap.size + 1, 1, none⟩ = some (.int .i64 x) := by rw [cell_at hb]; rfl
  have o2 : w6.cell? ⟨w.heap.size + 1, 2, none⟩ = some (.slice ao l.length cp) := by rw [cell_at hb]; rfl
  clear hb
  go_wp2_with fail
  refine (checkX_any (l := l) c x (HS.out.later (A.out.into (by simp))) hl).mono ?_
  rw [H2.out]
  rintro e w7 ⟨rfl, B7⟩
  have A := hid (A.out.later B7)
  have RA := hid (RA.out.below B7)
  clear B7 o0 o1 o2 H2
  go_wp2_with fail
  refine (newR A.out (Or.inl RA.out) (by omega)).mono ?_
  rintro e w8 ⟨b2, D, rv, rfl, A8, _⟩
  rw [← HB.out] at A8
  have A := hid A8
  have hp8 : 0 + (bs1 ++ bs2).length ≤ 140737488355328 := by rw [HB.out]; omega
  have HP8 := hid hp8
  clear A8 RA hp8
  go_wp2_with fail
  refine (backOp H1.out P1.out A.out (fun w' h' => HT.out.below (h'.into (by simp))) HP8.out).mono ?_
  rintro e w9 ⟨rfl, rv9, A9⟩
  have A := hid ((A9.addBlk [.int .i64 k, .string nm, .string tx, .int .i64 n, .int .i64 m] 35).swap)
  clear A9 H1 P1
  obtain ⟨pl', hre⟩ := RE.out
  have HRV := hid (show (⟨bs2, 0 + bs1.length, 0⟩ : Rst).resV = ⟨c, x, l⟩ by rw [Rst.resV, hre]; rfl)
  have HRS := hid (show (⟨bs2, 0 + bs1.length, 0⟩ : Rst).res = ⟨[], pl', 0⟩ by rw [Rst.res, hre])
  have HSZ := hid (show (⟨bs2, 0 + bs1.length, 0⟩ : Rst).size ≤ 140737488355328 by have := HP8.out; rw [List.length_append] at this; simp only [Rst.size]; omega)
  clear RE hre HP8
  generalize hR : (⟨bs2, 0 + bs1.length, 0⟩ : Rst) = R at A HRV HRS HSZ
  clear hR
  go_wp2_with fail
  refine (getResult_any A.out HSZ.out).mono ?_
  rw [HRV.out, HRS.out]
  simp only
  rintro e w10 ⟨so2, sc2, rv10, rfl, A10⟩
  have A := hid ((A10.addBlk [.int .i64 c, .int .i64 x, .slice so2 l.length sc2] 41).perm (rot3 _ _ _ _))
  clear A10 HRV HRS HSZ
  go_wp2_with fail
  refine (closeRd A.out).mono ?_
  rintro e w11 ⟨rfl, rv11, A11⟩
  have A := hid A11
  clear A11
  have hb := A.out.blk (g := w.heap.size) (vs := [.int .i64 k, .string nm, .string tx, .int .i64 n, .int .i64 m]) (t := 35) (by simp)
  have o0 : w11.cell? ⟨w.heap.size, 0, none⟩ = some (.int .i64 k) := by rw [cell_at hb]; rfl
  have o1 : w11.cell? ⟨w.heap.size, 1, none⟩ = some (.string nm) := by rw [cell_at hb]; rfl
  have o2 : w11.cell? ⟨w.heap.size, 2, none⟩ = some (.string tx) := by rw [cell_at hb]; rfl
  have o3 : w11.cell? ⟨w.heap.size, 3, none⟩ = some (.int .i64 n) := by rw [cell_at hb]; rfl
  have o4 : w11.cell? ⟨w.heap.size, 4, none⟩ = some (.int .i64 m) := by rw [cell_at hb]; rfl
  clear hb
  have hb := A.out.blk (g := w9.heap.size) (vs := [.int .i64 k, .string nm, .string tx, .int .i64 n, .int .i64 m]) (t := 35) (by simp)
  have p0 : w11.cell? ⟨w9.heap.size, 0, none⟩ = some (.int .i64 k) := by rw [cell_at hb]; rfl
  have p1 : w11.cell? ⟨w9.heap.size, 1, none⟩ = some (.string nm) := by rw [cell_at hb]; rfl
  have p2 : w11.cell? ⟨w9.heap.size, 2, none⟩ = some (.string tx) := by rw [cell_at hb]; rfl
  have p3 : w11.cell? ⟨w9.heap.size, 3, none⟩ = some (.int .i64 n) := by rw [cell_at hb]; rfl
  have p4 : w11.cell? ⟨w9.heap.size, 4, none⟩ = some (.int .i64 m) := by rw [cell_at hb]; rfl
  clear hb
  go_wp2_with fail
  refine (sameOp_true k nm tx n m).mono ?_
  rintro e w12 ⟨rfl, B12⟩
  have A := hid (A.out.later B12)
  clear B12 o0 o1 o2 o3 o4 p0 p1 p2 p3 p4
  have hb := A.out.blk (g := w.heap.size + 1) (vs := [.int .i64 c, .int .i64 x, .slice ao l.length cp]) (t := 41) (by simp)
  have o0 : w12.cell? ⟨w.heap.size + 1, 0, none⟩ = some (.int .i64 c) := by rw [cell_at hb]; rfl
  have o1 : w12.cell? ⟨w.heap.size + 1, 1, none⟩ = some (.int .i64 x) := by rw [cell_at hb]; rfl
  have o2 : w12.cell? ⟨w.heap.size + 1, 2, none⟩ = some (.slice ao l.length cp) := by rw [cell_at hb]; rfl
  clear hb
  have hb := A.out.blk (g := w10.heap.size) (vs := [.int .i64 c, .int .i64 x, .slice so2 l.length sc2]) (t := 41) (by simp)
  have p0 : w12.cell? ⟨w10.heap.size, 0, none⟩ = some (.int .i64 c) := by rw [cell_at hb]; rfl
  have p1 : w12.cell? ⟨w10.heap.size, 1, none⟩ = some (.int .i64 x) := by rw [cell_at hb]; rfl
  have p2 : w12.cell? ⟨w10.heap.size, 2, none⟩ = some (.slice so2 l.length sc2) := by rw [cell_at hb]; rfl
  clear hb
  go_wp2_with fail
  refine (sameResult_true c x (l := l) (HS.out.later (A.out.into (by simp))) (txts_of (e := 9) (l := l) A.out (by simp)) (by have := Q4.out; omega)).mono ?_
  rintro e w13 ⟨rfl, B13⟩
  have A := hid (A.out.later B13)
  clear B13 o0 o1 o2 p0 p1 p2
  go_wp2
  go_ret
  exact ⟨rfl, A.out.into (by simp)⟩
end Go.Proofs.YtkcepkehgkkkbaaGreatDoor
