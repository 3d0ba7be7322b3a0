import Derived.Test.YtkcepkehgkkkbaaGreatDoorGet
import Derived.Test.YtkcepkehgkkkbaaGreatDoorGetO
import Derived.Test.YtkcepkehgkkkbaaGreatDoorWLaw
namespace Go.Proofs.YtkcepkehgkkkbaaGreatDoor
open Go.RowKit
set_option linter.unusedVariables false

/-- An op that was read: it may be, and its bytes are those that were read. -/
structure Got (r R : Rst) (k : Int) (nm tx : ByteArray) (n m : Int) : Prop where
  lo : 1 ≤ k
  hi : k ≤ 8
  chk : chkA k nm.size tx.size n m = 0
  nm16 : nm.size ≤ 16
  tx64 : tx.size ≤ 64
  nb : 0 ≤ n ∧ n ≤ 1099511627776
  mb : 0 ≤ m ∧ m ≤ 8
  bs : ∃ bs, putV k.toNat (some []) nm tx n m = some bs ∧ r.rs = bs ++ R.rs ∧ R.place = r.place + bs.length

theorem emp_size : ByteArray.size emp = 0 := rfl

theorem got1 (r : Rst) (hk : r.numV 8 = 1) (h : (((r.num 8).txt 16).fail (chkA 1 (ByteArray.size ((r.num 8).txtV 16)) (ByteArray.size emp) 0 0)).err = 0) : Got r (((r.num 8).txt 16).fail (chkA 1 (ByteArray.size ((r.num 8).txtV 16)) (ByteArray.size emp) 0 0)) 1 ((r.num 8).txtV 16) emp 0 0 := by
  obtain ⟨hc, h0, e⟩ := fail_err _ _ h
  rw [e]
  obtain ⟨h0', znm, bnm, pnm⟩ := txt_inv _ 16 h0
  obtain ⟨_, Nk, vk, zk, yk, bk, pk⟩ := num_inv _ 8 h0'
  rw [hk] at vk
  obtain rfl : Nk = 1 := by omega
  refine ⟨by omega, by omega, hc, by omega, by simp [emp_size], by omega, by omega, ?_⟩
  refine ⟨enc 9 1 ++ txtB ((r.num 8).txtV 16), ?_, ?_, ?_⟩
  · show putV 1 (some []) ((r.num 8).txtV 16) emp 0 0 = _
    simp only [putV]
    simp [addS]
  · rw [bk, bnm]
    simp only [List.append_assoc]
  · rw [pnm, pk]
    simp only [List.length_append]
    omega

theorem got2 (r : Rst) (hk : r.numV 8 = 2) (h : (((r.num 8).txt 16).fail (chkA 2 (ByteArray.size ((r.num 8).txtV 16)) (ByteArray.size emp) 0 0)).err = 0) : Got r (((r.num 8).txt 16).fail (chkA 2 (ByteArray.size ((r.num 8).txtV 16)) (ByteArray.size emp) 0 0)) 2 ((r.num 8).txtV 16) emp 0 0 := by
  obtain ⟨hc, h0, e⟩ := fail_err _ _ h
  rw [e]
  obtain ⟨h0', znm, bnm, pnm⟩ := txt_inv _ 16 h0
  obtain ⟨_, Nk, vk, zk, yk, bk, pk⟩ := num_inv _ 8 h0'
  rw [hk] at vk
  obtain rfl : Nk = 2 := by omega
  refine ⟨by omega, by omega, hc, by omega, by simp [emp_size], by omega, by omega, ?_⟩
  refine ⟨enc 9 2 ++ txtB ((r.num 8).txtV 16), ?_, ?_, ?_⟩
  · show putV 2 (some []) ((r.num 8).txtV 16) emp 0 0 = _
    simp only [putV]
    simp [addS]
  · rw [bk, bnm]
    simp only [List.append_assoc]
  · rw [pnm, pk]
    simp only [List.length_append]
    omega

theorem got3 (r : Rst) (hk : r.numV 8 = 3) (h : ((((r.num 8).txt 16).txt 64).fail (chkA 3 (ByteArray.size ((r.num 8).txtV 16)) (ByteArray.size (((r.num 8).txt 16).txtV 64)) 0 0)).err = 0) : Got r ((((r.num 8).txt 16).txt 64).fail (chkA 3 (ByteArray.size ((r.num 8).txtV 16)) (ByteArray.size (((r.num 8).txt 16).txtV 64)) 0 0)) 3 ((r.num 8).txtV 16) (((r.num 8).txt 16).txtV 64) 0 0 := by
  obtain ⟨hc, h0, e⟩ := fail_err _ _ h
  rw [e]
  obtain ⟨h0', ztx, btx, ptx⟩ := txt_inv _ 64 h0
  obtain ⟨h0'', znm, bnm, pnm⟩ := txt_inv _ 16 h0'
  obtain ⟨_, Nk, vk, zk, yk, bk, pk⟩ := num_inv _ 8 h0''
  rw [hk] at vk
  obtain rfl : Nk = 3 := by omega
  refine ⟨by omega, by omega, hc, by omega, by omega, by omega, by omega, ?_⟩
  refine ⟨enc 9 3 ++ txtB ((r.num 8).txtV 16) ++ txtB (((r.num 8).txt 16).txtV 64), ?_, ?_, ?_⟩
  · show putV 3 (some []) ((r.num 8).txtV 16) (((r.num 8).txt 16).txtV 64) 0 0 = _
    simp only [putV]
    simp [addS]
  · rw [bk, bnm, btx]
    simp only [List.append_assoc]
  · rw [ptx, pnm, pk]
    simp only [List.length_append]
    omega

theorem got4 (r : Rst) (hk : r.numV 8 = 4) (h : ((((r.num 8).txt 16).num 1099511627776).fail (chkA 4 (ByteArray.size ((r.num 8).txtV 16)) (ByteArray.size emp) (((r.num 8).txt 16).numV 1099511627776) 0)).err = 0) : Got r ((((r.num 8).txt 16).num 1099511627776).fail (chkA 4 (ByteArray.size ((r.num 8).txtV 16)) (ByteArray.size emp) (((r.num 8).txt 16).numV 1099511627776) 0)) 4 ((r.num 8).txtV 16) emp (((r.num 8).txt 16).numV 1099511627776) 0 := by
  obtain ⟨hc, h0, e⟩ := fail_err _ _ h
  rw [e]
  obtain ⟨h0', Nn, vn, zn, yn, bn, pn⟩ := num_inv _ 1099511627776 h0
  obtain ⟨h0'', znm, bnm, pnm⟩ := txt_inv _ 16 h0'
  obtain ⟨_, Nk, vk, zk, yk, bk, pk⟩ := num_inv _ 8 h0''
  rw [hk] at vk
  obtain rfl : Nk = 4 := by omega
  refine ⟨by omega, by omega, hc, by omega, by simp [emp_size], by rw [vn]; omega, by omega, ?_⟩
  refine ⟨enc 9 4 ++ txtB ((r.num 8).txtV 16) ++ enc 9 Nn, ?_, ?_, ?_⟩
  · show putV 4 (some []) ((r.num 8).txtV 16) emp (((r.num 8).txt 16).numV 1099511627776) 0 = _
    simp only [putV]
    rw [vn]
    simp [numS_nat, addS]
  · rw [bk, bnm, bn]
    simp only [List.append_assoc]
  · rw [pn, pnm, pk]
    simp only [List.length_append]
    omega

theorem got5 (r : Rst) (hk : r.numV 8 = 5) (h : ((((r.num 8).txt 16).txt 16).fail (chkA 5 (ByteArray.size ((r.num 8).txtV 16)) (ByteArray.size (((r.num 8).txt 16).txtV 16)) 0 0)).err = 0) : Got r ((((r.num 8).txt 16).txt 16).fail (chkA 5 (ByteArray.size ((r.num 8).txtV 16)) (ByteArray.size (((r.num 8).txt 16).txtV 16)) 0 0)) 5 ((r.num 8).txtV 16) (((r.num 8).txt 16).txtV 16) 0 0 := by
  obtain ⟨hc, h0, e⟩ := fail_err _ _ h
  rw [e]
  obtain ⟨h0', ztx, btx, ptx⟩ := txt_inv _ 16 h0
  obtain ⟨h0'', znm, bnm, pnm⟩ := txt_inv _ 16 h0'
  obtain ⟨_, Nk, vk, zk, yk, bk, pk⟩ := num_inv _ 8 h0''
  rw [hk] at vk
  obtain rfl : Nk = 5 := by omega
  refine ⟨by omega, by omega, hc, by omega, by omega, by omega, by omega, ?_⟩
  refine ⟨enc 9 5 ++ txtB ((r.num 8).txtV 16) ++ txtB (((r.num 8).txt 16).txtV 16), ?_, ?_, ?_⟩
  · show putV 5 (some []) ((r.num 8).txtV 16) (((r.num 8).txt 16).txtV 16) 0 0 = _
    simp only [putV]
    simp [addS]
  · rw [bk, bnm, btx]
    simp only [List.append_assoc]
  · rw [ptx, pnm, pk]
    simp only [List.length_append]
    omega

theorem got6 (r : Rst) (hk : r.numV 8 = 6) (h : (((((r.num 8).txt 16).num 1099511627776).num 8).fail (chkA 6 (ByteArray.size ((r.num 8).txtV 16)) (ByteArray.size emp) (((r.num 8).txt 16).numV 1099511627776) ((((r.num 8).txt 16).num 1099511627776).numV 8))).err = 0) : Got r (((((r.num 8).txt 16).num 1099511627776).num 8).fail (chkA 6 (ByteArray.size ((r.num 8).txtV 16)) (ByteArray.size emp) (((r.num 8).txt 16).numV 1099511627776) ((((r.num 8).txt 16).num 1099511627776).numV 8))) 6 ((r.num 8).txtV 16) emp (((r.num 8).txt 16).numV 1099511627776) ((((r.num 8).txt 16).num 1099511627776).numV 8) := by
  obtain ⟨hc, h0, e⟩ := fail_err _ _ h
  rw [e]
  obtain ⟨h0', Nm, vm, zm, ym, bm, pm⟩ := num_inv _ 8 h0
  obtain ⟨h0'', Nn, vn, zn, yn, bn, pn⟩ := num_inv _ 1099511627776 h0'
  obtain ⟨h0''', znm, bnm, pnm⟩ := txt_inv _ 16 h0''
  obtain ⟨_, Nk, vk, zk, yk, bk, pk⟩ := num_inv _ 8 h0'''
  rw [hk] at vk
  obtain rfl : Nk = 6 := by omega
  refine ⟨by omega, by omega, hc, by omega, by simp [emp_size], by rw [vn]; omega, by rw [vm]; omega, ?_⟩
  refine ⟨enc 9 6 ++ txtB ((r.num 8).txtV 16) ++ enc 9 Nn ++ enc 9 Nm, ?_, ?_, ?_⟩
  · show putV 6 (some []) ((r.num 8).txtV 16) emp (((r.num 8).txt 16).numV 1099511627776) ((((r.num 8).txt 16).num 1099511627776).numV 8) = _
    simp only [putV]
    rw [vn, vm]
    simp [numS_nat, addS]
  · rw [bk, bnm, bn, bm]
    simp only [List.append_assoc]
  · rw [pm, pn, pnm, pk]
    simp only [List.length_append]
    omega

theorem got7 (r : Rst) (hk : r.numV 8 = 7) (h : (((r.num 8).txt 16).fail (chkA 7 (ByteArray.size ((r.num 8).txtV 16)) (ByteArray.size emp) 0 0)).err = 0) : Got r (((r.num 8).txt 16).fail (chkA 7 (ByteArray.size ((r.num 8).txtV 16)) (ByteArray.size emp) 0 0)) 7 ((r.num 8).txtV 16) emp 0 0 := by
  obtain ⟨hc, h0, e⟩ := fail_err _ _ h
  rw [e]
  obtain ⟨h0', znm, bnm, pnm⟩ := txt_inv _ 16 h0
  obtain ⟨_, Nk, vk, zk, yk, bk, pk⟩ := num_inv _ 8 h0'
  rw [hk] at vk
  obtain rfl : Nk = 7 := by omega
  refine ⟨by omega, by omega, hc, by omega, by simp [emp_size], by omega, by omega, ?_⟩
  refine ⟨enc 9 7 ++ txtB ((r.num 8).txtV 16), ?_, ?_, ?_⟩
  · show putV 7 (some []) ((r.num 8).txtV 16) emp 0 0 = _
    simp only [putV]
    simp [addS]
  · rw [bk, bnm]
    simp only [List.append_assoc]
  · rw [pnm, pk]
    simp only [List.length_append]
    omega

theorem got8 (r : Rst) (hk : r.numV 8 = 8) (h : ((r.num 8).fail (chkA 8 (ByteArray.size emp) (ByteArray.size emp) 0 0)).err = 0) : Got r ((r.num 8).fail (chkA 8 (ByteArray.size emp) (ByteArray.size emp) 0 0)) 8 emp emp 0 0 := by
  obtain ⟨hc, h0, e⟩ := fail_err _ _ h
  rw [e]
  obtain ⟨_, Nk, vk, zk, yk, bk, pk⟩ := num_inv _ 8 h0
  rw [hk] at vk
  obtain rfl : Nk = 8 := by omega
  refine ⟨by omega, by omega, hc, by simp [emp_size], by simp [emp_size], by omega, by omega, ?_⟩
  refine ⟨enc 9 8, ?_, ?_, ?_⟩
  · show putV 8 (some []) emp emp 0 0 = _
    simp only [putV]
    simp [addS]
  · rw [bk]
  · rw [pk]

/-- Any op is read. -/
theorem getOp_any {b : Nat} {D : Option Nat} {rv : Value} {r : Rst} {cs : List Comp} {w : World} (h : All (rdC b D rv r :: cs) w) (ht : ∀ w', All cs w' → Tab w') (hp : r.size ≤ 140737488355328) :
    Calls Tryz.prog 12 #[.pointer (some ⟨b, 0, none⟩)] w fun e w' => ∃ k nm tx n m R rv', e = .returned (opV k nm tx n m) ∧ All (rdC b D rv' R :: cs) w' ∧ ((R.err ≠ 0 ∧ k = 0 ∧ nm = emp ∧ tx = emp ∧ n = 0 ∧ m = 0) ∨ (R.err = 0 ∧ Got r R k nm tx n m)) := by
  have h1 := numR_val r.rs 8 13
  have h2 := numR_le r.rs 8 13 (by omega)
  have hv : 0 ≤ r.numV 8 ∧ r.numV 8 ≤ 8 := ⟨h1.1, h2⟩
  obtain hk | hk | hk | hk | hk | hk | hk | hk | hk : r.numV 8 = 0 ∨ r.numV 8 = 1 ∨ r.numV 8 = 2 ∨ r.numV 8 = 3 ∨ r.numV 8 = 4 ∨ r.numV 8 = 5 ∨ r.numV 8 = 6 ∨ r.numV 8 = 7 ∨ r.numV 8 = 8 := by omega
  · refine (get0 h ht hp hk).mono ?_
    rintro e w' ⟨rfl, rv', A⟩
    by_cases he : ((r.num 8).fail (chkA 0 (ByteArray.size emp) (ByteArray.size emp) 0 0)).err = 0
    · exact absurd (fail_err _ _ he).1 (by decide)
    · rw [gotV, if_neg he]
      exact ⟨_, _, _, _, _, _, rv', rfl, A, Or.inl ⟨he, rfl, rfl, rfl, rfl, rfl⟩⟩
  · refine (get1 h ht hp hk).mono ?_
    rintro e w' ⟨rfl, rv', A⟩
    by_cases he : (((r.num 8).txt 16).fail (chkA 1 (ByteArray.size ((r.num 8).txtV 16)) (ByteArray.size emp) 0 0)).err = 0
    · rw [gotV, if_pos he]
      exact ⟨_, _, _, _, _, _, rv', rfl, A, Or.inr ⟨he, got1 r hk he⟩⟩
    · rw [gotV, if_neg he]
      exact ⟨_, _, _, _, _, _, rv', rfl, A, Or.inl ⟨he, rfl, rfl, rfl, rfl, rfl⟩⟩
  · refine (get2 h ht hp hk).mono ?_
    rintro e w' ⟨rfl, rv', A⟩
    by_cases he : (((r.num 8).txt 16).fail (chkA 2 (ByteArray.size ((r.num 8).txtV 16)) (ByteArray.size emp) 0 0)).err = 0
    · rw [gotV, if_pos he]
      exact ⟨_, _, _, _, _, _, rv', rfl, A, Or.inr ⟨he, got2 r hk he⟩⟩
    · rw [gotV, if_neg he]
      exact ⟨_, _, _, _, _, _, rv', rfl, A, Or.inl ⟨he, rfl, rfl, rfl, rfl, rfl⟩⟩
  · refine (get3 h ht hp hk).mono ?_
    rintro e w' ⟨rfl, rv', A⟩
    by_cases he : ((((r.num 8).txt 16).txt 64).fail (chkA 3 (ByteArray.size ((r.num 8).txtV 16)) (ByteArray.size (((r.num 8).txt 16).txtV 64)) 0 0)).err = 0
    · rw [gotV, if_pos he]
      exact ⟨_, _, _, _, _, _, rv', rfl, A, Or.inr ⟨he, got3 r hk he⟩⟩
    · rw [gotV, if_neg he]
      exact ⟨_, _, _, _, _, _, rv', rfl, A, Or.inl ⟨he, rfl, rfl, rfl, rfl, rfl⟩⟩
  · refine (get4 h ht hp hk).mono ?_
    rintro e w' ⟨rfl, rv', A⟩
    by_cases he : ((((r.num 8).txt 16).num 1099511627776).fail (chkA 4 (ByteArray.size ((r.num 8).txtV 16)) (ByteArray.size emp) (((r.num 8).txt 16).numV 1099511627776) 0)).err = 0
    · rw [gotV, if_pos he]
      exact ⟨_, _, _, _, _, _, rv', rfl, A, Or.inr ⟨he, got4 r hk he⟩⟩
    · rw [gotV, if_neg he]
      exact ⟨_, _, _, _, _, _, rv', rfl, A, Or.inl ⟨he, rfl, rfl, rfl, rfl, rfl⟩⟩
  · refine (get5 h ht hp hk).mono ?_
    rintro e w' ⟨rfl, rv', A⟩
    by_cases he : ((((r.num 8).txt 16).txt 16).fail (chkA 5 (ByteArray.size ((r.num 8).txtV 16)) (ByteArray.size (((r.num 8).txt 16).txtV 16)) 0 0)).err = 0
    · rw [gotV, if_pos he]
      exact ⟨_, _, _, _, _, _, rv', rfl, A, Or.inr ⟨he, got5 r hk he⟩⟩
    · rw [gotV, if_neg he]
      exact ⟨_, _, _, _, _, _, rv', rfl, A, Or.inl ⟨he, rfl, rfl, rfl, rfl, rfl⟩⟩
  · refine (get6 h ht hp hk).mono ?_
    rintro e w' ⟨rfl, rv', A⟩
    by_cases he : (((((r.num 8).txt 16).num 1099511627776).num 8).fail (chkA 6 (ByteArray.size ((r.num 8).txtV 16)) (ByteArray.size emp) (((r.num 8).txt 16).numV 1099511627776) ((((r.num 8).txt 16).num 1099511627776).numV 8))).err = 0
    · rw [gotV, if_pos he]
      exact ⟨_, _, _, _, _, _, rv', rfl, A, Or.inr ⟨he, got6 r hk he⟩⟩
    · rw [gotV, if_neg he]
      exact ⟨_, _, _, _, _, _, rv', rfl, A, Or.inl ⟨he, rfl, rfl, rfl, rfl, rfl⟩⟩
  · refine (get7 h ht hp hk).mono ?_
    rintro e w' ⟨rfl, rv', A⟩
    by_cases he : (((r.num 8).txt 16).fail (chkA 7 (ByteArray.size ((r.num 8).txtV 16)) (ByteArray.size emp) 0 0)).err = 0
    · rw [gotV, if_pos he]
      exact ⟨_, _, _, _, _, _, rv', rfl, A, Or.inr ⟨he, got7 r hk he⟩⟩
    · rw [gotV, if_neg he]
      exact ⟨_, _, _, _, _, _, rv', rfl, A, Or.inl ⟨he, rfl, rfl, rfl, rfl, rfl⟩⟩
  · refine (get8 h ht hp hk).mono ?_
    rintro e w' ⟨rfl, rv', A⟩
    by_cases he : ((r.num 8).fail (chkA 8 (ByteArray.size emp) (ByteArray.size emp) 0 0)).err = 0
    · rw [gotV, if_pos he]
      exact ⟨_, _, _, _, _, _, rv', rfl, A, Or.inr ⟨he, got8 r hk he⟩⟩
    · rw [gotV, if_neg he]
      exact ⟨_, _, _, _, _, _, rv', rfl, A, Or.inl ⟨he, rfl, rfl, rfl, rfl, rfl⟩⟩

/-- A result that was read. -/
theorem res_got (r : Rst) (h : r.res.err = 0) : chkX r.resV.c r.resV.k r.resV.l = 0 ∧ r.resV.l.length ≤ 8 ∧ (∀ t ∈ r.resV.l, t.size ≤ 64) ∧ (0 ≤ r.resV.c ∧ r.resV.c ≤ 4) ∧ (0 ≤ r.resV.k ∧ r.resV.k ≤ 1099511627776) ∧ ∃ bs, putX (some []) r.resV.c r.resV.k r.resV.l = some bs ∧ r.rs = bs ++ r.res.rs ∧ r.res.place = r.place + bs.length := by
  have h' : r.res0.2.err = 0 := h
  rw [Rst.resV, if_pos h', Rst.res]
  unfold Rst.res0 at h' ⊢
  by_cases h0 : r.numV 4 = 0
  · rw [if_pos h0] at h' ⊢
    simp only at h' ⊢
    obtain ⟨a1, a2, a3, a4⟩ := items_inv _ _ h'
    obtain ⟨b1, N3, b2, b3, b4, b5, b6⟩ := num_inv _ 8 a1
    obtain ⟨c1, N2, c2, c3, c4, c5, c6⟩ := num_inv _ 1099511627776 b1
    obtain ⟨d1, N1, d2, d3, d4, d5, d6⟩ := num_inv _ 4 c1
    rw [h0] at d2
    obtain rfl : N1 = 0 := by omega
    rw [b2] at a2 a3 a4 ⊢
    simp only [Int.toNat_natCast] at a2 a3 a4 ⊢
    have hl := items_len (((r.num 4).num 1099511627776).num 8) N3
    generalize ((((r.num 4).num 1099511627776).num 8).items N3).1 = L at a2 a3 a4 hl ⊢
    generalize ((((r.num 4).num 1099511627776).num 8).items N3).2 = R at a3 a4 h' ⊢
    have hc : chkX 0 ((r.num 4).numV 1099511627776) L = 0 := by
      unfold chkX
      rw [if_neg (by omega), if_neg (by simp), if_neg (by rw [c2]; omega), if_neg (by omega), if_neg]
      rintro ⟨t, ht, h64⟩
      have := a2 t ht
      omega
    refine ⟨hc, by omega, a2, by omega, by rw [c2]; omega, enc 9 0 ++ enc 9 N2 ++ itemsB L, ?_, ?_, ?_⟩
    · unfold putX
      rw [if_pos hc, if_pos rfl, c2]
      have e0 := numS_nat (some []) 0
      rw [show ((0 : Nat) : Int) = 0 by rfl] at e0
      rw [e0, numS_nat]
      simp [addS]
    · rw [d5, c5, b5, a3, itemsB, hl]
      simp only [List.append_assoc]
    · rw [a4, b6, c6, d6]
      simp only [List.length_append, itemsB, hl]
      omega
  · rw [if_neg h0] at h' ⊢
    simp only at h' ⊢
    obtain ⟨d1, N1, d2, d3, d4, d5, d6⟩ := num_inv _ 4 h'
    have hc : chkX (r.numV 4) 0 [] = 0 := by
      unfold chkX
      rw [if_neg (by rw [d2]; omega), if_neg (by simp), if_neg (by omega), if_neg (by simp), if_neg (by simp)]
    refine ⟨hc, by simp, by simp, by rw [d2]; omega, by omega, enc 9 N1, ?_, d5, d6⟩
    unfold putX
    rw [if_pos hc, if_neg h0, d2, numS_nat]
    simp [addS]
theorem res_none (r : Rst) (h : r.res.err ≠ 0) : r.resV = ⟨0, 0, []⟩ := by
  have h' : r.res0.2.err ≠ 0 := h
  rw [Rst.resV, if_neg h']
end Go.Proofs.YtkcepkehgkkkbaaGreatDoor
