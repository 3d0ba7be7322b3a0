import Derived.Test.YtkcepkehgkkkbaaGreatDoorJ14
import Derived.Test.YtkcepkehgkkkbaaGreatDoorJ15
import Derived.Test.YtkcepkehgkkkbaaGreatDoorJ11
namespace Go.Proofs.YtkcepkehgkkkbaaGreatDoor
open Go.RowKit
set_option linter.unusedVariables false

/-- What is to be written. -/
structure Wt where
  kind : Int
  N : Int
  k : Int
  nm : ByteArray
  tx : ByteArray
  n : Int
  m : Int
  c : Int
  x : Int
  s : Value
  items : List ByteArray

structure Ten (w : World) (g p : Nat) (e : Wt) : Prop where
  c0 : w.cell? ⟨g, p, none⟩ = some (.int .i64 e.kind)
  c1 : w.cell? ⟨g, p + 1, none⟩ = some (.int .i64 e.N)
  c2 : w.cell? ⟨g, p + 2, none⟩ = some (.int .i64 e.k)
  c3 : w.cell? ⟨g, p + 3, none⟩ = some (.string e.nm)
  c4 : w.cell? ⟨g, p + 4, none⟩ = some (.string e.tx)
  c5 : w.cell? ⟨g, p + 5, none⟩ = some (.int .i64 e.n)
  c6 : w.cell? ⟨g, p + 6, none⟩ = some (.int .i64 e.m)
  c7 : w.cell? ⟨g, p + 7, none⟩ = some (.int .i64 e.c)
  c8 : w.cell? ⟨g, p + 8, none⟩ = some (.int .i64 e.x)
  c9 : w.cell? ⟨g, p + 9, none⟩ = some e.s
theorem Ten.later {w w' : World} {g p : Nat} {e : Wt} (h : Ten w g p e) (hg : g < w.heap.size) (hb : Below w.heap.size w w') : Ten w' g p e :=
  ⟨cell_under hb hg h.c0, cell_under hb hg h.c1, cell_under hb hg h.c2, cell_under hb hg h.c3, cell_under hb hg h.c4, cell_under hb hg h.c5, cell_under hb hg h.c6, cell_under hb hg h.c7, cell_under hb hg h.c8, cell_under hb hg h.c9⟩

def i64 (n : Int) : Prop := -9223372036854775808 ≤ n ∧ n < 9223372036854775808
structure Wt.Ok (e : Wt) : Prop where
  kind : i64 e.kind
  N : i64 e.N
  n : i64 e.n
  m : i64 e.m
  c : i64 e.c
  x : i64 e.x
/-- How much an entry writes at most. -/
def Wt.wt (e : Wt) : Nat := e.nm.size + e.tx.size + bulkT e.items + e.items.length + 100
def total (xs : List Wt) : Nat := (xs.map Wt.wt).sum

/-- A nil list has no room. -/
def NilOk (s : Value) : Prop := ∀ n c, s = .slice none n c → c = 0

/-- A script that came in. -/
def ScriptAt (w : World) (v : Value) (xs : List Wt) : Prop :=
  ∃ ao c, v = .slice ao xs.length c ∧ xs.length ≤ c ∧ ∀ i (h : i < xs.length), ∃ g o, ao = some ⟨g, o, none⟩ ∧ g < w.heap.size ∧ Ten w g (o + i * 10) xs[i] ∧ (Txts w xs[i].s xs[i].items ∧ NilOk xs[i].s) ∧ xs[i].Ok

/-- What PutOp writes. -/
def putA (k : Int) (st : Option (List UInt8)) (nm tx : ByteArray) (n m : Int) : Option (List UInt8) := if chkA k nm.size tx.size n m = 0 then putV k.toNat st nm tx n m else none
def stepW (st : Option (List UInt8)) (e : Wt) : Option (List UInt8) := if e.kind = 0 then numS st e.N else if e.kind = 1 then putA e.k st e.nm e.tx e.n e.m else putX st e.c e.x e.items

theorem lenS_none : lenS none = 0 := rfl
theorem putA_len (k : Int) (st : Option (List UInt8)) (nm tx : ByteArray) (n m : Int) : lenS (putA k st nm tx n m) ≤ lenS st + (nm.size + tx.size + 60) := by
  unfold putA
  split
  · have h0 := lenS_nat st k.toNat
    have h1 := lenS_txt (addS st (enc 9 k.toNat)) nm
    have h2 := lenS_txt (addS (addS st (enc 9 k.toNat)) (enc 9 nm.size ++ nm.data.toList)) tx
    have h3 := lenS_num (addS (addS st (enc 9 k.toNat)) (enc 9 nm.size ++ nm.data.toList)) n
    have h4 := lenS_num (numS (addS (addS st (enc 9 k.toNat)) (enc 9 nm.size ++ nm.data.toList)) n) m
    unfold putV txtB
    repeat' split
    all_goals omega
  · rw [lenS_none]; omega
theorem putX_len (st : Option (List UInt8)) (c n : Int) (l : List ByteArray) : lenS (putX st c n l) ≤ lenS st + (bulkT l + 60) := by
  have h1 := lenS_num st c
  have h2 := lenS_num (numS st c) n
  have h3 := lenS_addS (numS (numS st c) n) (itemsB l)
  have h4 := itemsB_len l
  unfold putX
  repeat' split
  · omega
  · omega
  · rw [lenS_none]; omega
theorem stepW_len (st : Option (List UInt8)) (e : Wt) : lenS (stepW st e) ≤ lenS st + e.wt := by
  unfold stepW Wt.wt
  have h1 := lenS_num st e.N
  have h2 := putA_len e.k st e.nm e.tx e.n e.m
  have h3 := putX_len st e.c e.x e.items
  repeat' split
  all_goals omega
theorem fold_len (xs : List Wt) (st : Option (List UInt8)) : lenS (xs.foldl stepW st) ≤ lenS st + total xs := by
  induction xs generalizing st with
  | nil => simp [total]
  | cons e xs ih =>
    have h1 := ih (stepW st e)
    have h2 := stepW_len st e
    simp only [List.foldl_cons, total, List.map_cons, List.sum_cons] at h1 ⊢
    omega
theorem total_take {xs : List Wt} {i : Nat} (hi : i < xs.length) : total (xs.take i) + xs[i].wt ≤ total xs := by
  induction xs generalizing i with
  | nil => simp at hi
  | cons e xs ih =>
    cases i with
    | zero => simp [total]
    | succ i =>
      have := ih (i := i) (by simpa using hi)
      simp only [total, List.take_succ_cons, List.map_cons, List.sum_cons, List.getElem_cons_succ] at this ⊢
      omega
theorem fold_take {xs : List Wt} {i : Nat} (hi : i < xs.length) (st : Option (List UInt8)) : (xs.take (i + 1)).foldl stepW st = stepW ((xs.take i).foldl stepW st) xs[i] := by
  rw [List.take_succ_eq_append_getElem hi, List.foldl_append]; rfl

theorem putO_any {b : Nat} {v : Value} {st : Option (List UInt8)} {cs : List Comp} {w : World} (h : All (wrC b v st :: cs) w) (ht : ∀ w', All cs w' → Tab w') (k : Int) (nm tx : ByteArray) (n m : Int) (hn : n < 9223372036854775808) (hm : m < 9223372036854775808) (hlen : lenS st + nm.size + tx.size + 100 ≤ 140737488355328) :
    Calls Tryz.prog 27 #[.pointer (some ⟨b, 0, none⟩), opV k nm tx n m] w fun e w' => e = .returned (.tuple #[]) ∧ ∃ v', All (wrC b v' (putA k st nm tx n m) :: cs) w' := by
  by_cases hk : k < 1 ∨ 8 < k
  · rw [putA, chkA_out hk, if_neg (by omega)]
    exact put_out h ht hk nm tx n m hlen
  · obtain rfl | rfl | rfl | rfl | rfl | rfl | rfl | rfl : k = 1 ∨ k = 2 ∨ k = 3 ∨ k = 4 ∨ k = 5 ∨ k = 6 ∨ k = 7 ∨ k = 8 := by omega
    · exact put1 h ht nm tx n m hn hm hlen
    · exact put2 h ht nm tx n m hn hm hlen
    · exact put3 h ht nm tx n m hn hm hlen
    · exact put4 h ht nm tx n m hn hm hlen
    · exact put5 h ht nm tx n m hn hm hlen
    · exact put6 h ht nm tx n m hn hm hlen
    · exact put7 h ht nm tx n m hn hm hlen
    · exact put8 h ht nm tx n m hn hm hlen
/-- Texts are laid behind a list's own. -/
theorem wpList_append_txts {w : World} {ops : Array Oper} {rest : List Oper} {o : Oper} {a : Act} {Q : Exit → Act → World → Prop} (hg : o.guard = none) (s x : Operand)
    (ho : o.op = .call { callee := .builtin .append, args := #[s, x], argTypes := #[39, 39] }) (v : Value) (us : List ByteArray) (hs : a.eval s = v) (hown : w.ownsRow 0 9 1 v us.length (txtV us))
    (so : Option Addr) (sc : Nat) (l : List ByteArray) (hx : a.eval x = .slice so l.length sc) (hT : Txts w (.slice so l.length sc) l) (hnil : NilOk (.slice so l.length sc)) (hl : us.length + l.length ≤ 8796093022208)
    (h : ∀ v' w', w'.ownsRow 0 9 1 v' (us.length + l.length) (txtV (us ++ l)) → w.grownBy w' v.ownBlock → (v'.ownBlock = v.ownBlock ∨ v'.ownBlock = some w.heap.size) → wpList Tryz.prog ops Q rest (a.put o.dst v') w') :
    wpList Tryz.prog ops Q (o :: rest) a w := by
  obtain ⟨i0, hi, hz0, hz1, hz2⟩ := info_parts Tryz.info9
  cases so with
  | none =>
    obtain rfl := hnil _ _ rfl
    obtain ⟨ao, c, e, hc, hcase⟩ := hT
    simp only [Value.slice.injEq] at e
    have hl0 : l = [] := by
      have : l.length ≤ 0 := by omega
      exact List.length_eq_zero_iff.1 (by omega)
    subst hl0
    refine wpList_append_own_none hg s x 39 ho 0 9 i0 1 Tryz.und39 hi v us.length (txtV us) hs hown hx ?_
    have := h v w (by simpa using hown) ⟨rfl, rfl, rfl, Nat.le_refl _, fun _ _ _ => rfl⟩ (Or.inl rfl)
    exact this
  | some ad =>
    have hnews : ∀ j u, (txtV l)[j]? = some u → w.cell? (ad.add j) = some u := by
      intro j u hu
      have hj : j < l.length := by have := (List.getElem?_eq_some_iff.1 hu).1; simpa using this
      obtain ⟨g, o', ea, _, hc⟩ := hT.at hj
      cases ea
      rw [Addr.add_lit, hc, ← hu]
      simp [hj]
    refine wpList_append_own_at w hg s x 39 ho 0 9 i0 (.string ⟨#[]⟩) 1 16 Tryz.und39 hi hz0 hz1 hz2 rfl (by decide) v us.length (txtV us) hs hown ad l.length sc (txtV l) hx (by simp) hnews (fun u hu => by obtain ⟨t, _, rfl⟩ := List.mem_map.1 hu; rfl) (by unfold maxLen; omega) (by omega) (Nat.zero_le _) ?_
    intro v' w' h1 h2 _ h4
    exact h v' w' (by rw [txtV, List.map_append]; exact h1) h2 h4
end Go.Proofs.YtkcepkehgkkkbaaGreatDoor

namespace Go.Proofs.YtkcepkehgkkkbaaGreatDoor
open Go.RowKit
set_option linter.unusedVariables false

/-- An op that was read: it may be, and its bytes are those that were read. -/
structure Got (r R : Rst) (k : Int) (nm tx : ByteArray) (n m : Int) : Prop where
  lo : 1 ≤ k
  hi : k ≤ 8
  chk : chkA k nm.size tx.size n m = 0
  nm16 : nm.size ≤ 16
  tx64 : tx.size ≤ 64
  nb : 0 ≤ n ∧ n ≤ 1099511627776
  mb : 0 ≤ m ∧ m ≤ 8
  bs : ∃ bs, putV k.toNat (some []) nm tx n m = some bs ∧ r.rs = bs ++ R.rs ∧ R.place = r.place + bs.length

theorem emp_size : ByteArray.size emp = 0 := rfl

theorem got1 (r : Rst) (hk : r.numV 8 = 1) (h : (((r.num 8).txt 16).fail (chkA 1 (ByteArray.size ((r.num 8).txtV 16)) (ByteArray.size emp) 0 0)).err = 0) : Got r (((r.num 8).txt 16).fail (chkA 1 (ByteArray.size ((r.num 8).txtV 16)) (ByteArray.size emp) 0 0)) 1 ((r.num 8).txtV 16) emp 0 0 := by
  obtain ⟨hc, h0, e⟩ := fail_err _ _ h
  rw [e]
  obtain ⟨h0', znm, bnm, pnm⟩ := txt_inv _ 16 h0
  obtain ⟨_, Nk, vk, zk, yk, bk, pk⟩ := num_inv _ 8 h0'
  rw [hk] at vk
  obtain rfl : Nk = 1 := by omega
  refine ⟨by omega, by omega, hc, by omega, by simp [emp_size], by omega, by omega, ?_⟩
  refine ⟨enc 9 1 ++ txtB ((r.num 8).txtV 16), ?_, ?_, ?_⟩
  · show putV 1 (some []) ((r.num 8).txtV 16) emp 0 0 = _
    simp only [putV]
    simp [addS]
  · rw [bk, bnm]
    simp only [List.append_assoc]
  · rw [pnm, pk]
    simp only [List.length_append]
    omega

theorem got2 (r : Rst) (hk : r.numV 8 = 2) (h : (((r.num 8).txt 16).fail (chkA 2 (ByteArray.size ((r.num 8).txtV 16)) (ByteArray.size emp) 0 0)).err = 0) : Got r (((r.num 8).txt 16).fail (chkA 2 (ByteArray.size ((r.num 8).txtV 16)) (ByteArray.size emp) 0 0)) 2 ((r.num 8).txtV 16) emp 0 0 := by
  obtain ⟨hc, h0, e⟩ := fail_err _ _ h
  rw [e]
  obtain ⟨h0', znm, bnm, pnm⟩ := txt_inv _ 16 h0
  obtain ⟨_, Nk, vk, zk, yk, bk, pk⟩ := num_inv _ 8 h0'
  rw [hk] at vk
  obtain rfl : Nk = 2 := by omega
  refine ⟨by omega, by omega, hc, by omega, by simp [emp_size], by omega, by omega, ?_⟩
  refine ⟨enc 9 2 ++ txtB ((r.num 8).txtV 16), ?_, ?_, ?_⟩
  · show putV 2 (some []) ((r.num 8).txtV 16) emp 0 0 = _
    simp only [putV]
    simp [addS]
  · rw [bk, bnm]
    simp only [List.append_assoc]
  · rw [pnm, pk]
    simp only [List.length_append]
    omega

theorem got3 (r : Rst) (hk : r.numV 8 = 3) (h : ((((r.num 8).txt 16).txt 64).fail (chkA 3 (ByteArray.size ((r.num 8).txtV 16)) (ByteArray.size (((r.num 8).txt 16).txtV 64)) 0 0)).err = 0) : Got r ((((r.num 8).txt 16).txt 64).fail (chkA 3 (ByteArray.size ((r.num 8).txtV 16)) (ByteArray.size (((r.num 8).txt 16).txtV 64)) 0 0)) 3 ((r.num 8).txtV 16) (((r.num 8).txt 16).txtV 64) 0 0 := by
  obtain ⟨hc, h0, e⟩ := fail_err _ _ h
  rw [e]
  obtain ⟨h0', ztx, btx, ptx⟩ := txt_inv _ 64 h0
  obtain ⟨h0'', znm, bnm, pnm⟩ := txt_inv _ 16 h0'
  obtain ⟨_, Nk, vk, zk, yk, bk, pk⟩ := num_inv _ 8 h0''
  rw [hk] at vk
  obtain rfl : Nk = 3 := by omega
  refine ⟨by omega, by omega, hc, by omega, by omega, by omega, by omega, ?_⟩
  refine ⟨enc 9 3 ++ txtB ((r.num 8).txtV 16) ++ txtB (((r.num 8).txt 16).txtV 64), ?_, ?_, ?_⟩
  · show putV 3 (some []) ((r.num 8).txtV 16) (((r.num 8).txt 16).txtV 64) 0 0 = _
    simp only [putV]
    simp [addS]
  · rw [bk, bnm, btx]
    simp only [List.append_assoc]
  · rw [ptx, pnm, pk]
    simp only [List.length_append]
    omega

theorem got4 (r : Rst) (hk : r.numV 8 = 4) (h : ((((r.num 8).txt 16).num 1099511627776).fail (chkA 4 (ByteArray.size ((r.num 8).txtV 16)) (ByteArray.size emp) (((r.num 8).txt 16).numV 1099511627776) 0)).err = 0) : Got r ((((r.num 8).txt 16).num 1099511627776).fail (chkA 4 (ByteArray.size ((r.num 8).txtV 16)) (ByteArray.size emp) (((r.num 8).txt 16).numV 1099511627776) 0)) 4 ((r.num 8).txtV 16) emp (((r.num 8).txt 16).numV 1099511627776) 0 := by
  obtain ⟨hc, h0, e⟩ := fail_err _ _ h
  rw [e]
  obtain ⟨h0', Nn, vn, zn, yn, bn, pn⟩ := num_inv _ 1099511627776 h0
  obtain ⟨h0'', znm, bnm, pnm⟩ := txt_inv _ 16 h0'
  obtain ⟨_, Nk, vk, zk, yk, bk, pk⟩ := num_inv _ 8 h0''
  rw [hk] at vk
  obtain rfl : Nk = 4 := by omega
  refine ⟨by omega, by omega, hc, by omega, by simp [emp_size], by rw [vn]; omega, by omega, ?_⟩
  refine ⟨enc 9 4 ++ txtB ((r.num 8).txtV 16) ++ enc 9 Nn, ?_, ?_, ?_⟩
  · show putV 4 (some []) ((r.num 8).txtV 16) emp (((r.num 8).txt 16).numV 1099511627776) 0 = _
    simp only [putV]
    rw [vn]
    simp [numS_nat, addS]
  · rw [bk, bnm, bn]
    simp only [List.append_assoc]
  · rw [pn, pnm, pk]
    simp only [List.length_append]
    omega

theorem got5 (r : Rst) (hk : r.numV 8 = 5) (h : ((((r.num 8).txt 16).txt 16).fail (chkA 5 (ByteArray.size ((r.num 8).txtV 16)) (ByteArray.size (((r.num 8).txt 16).txtV 16)) 0 0)).err = 0) : Got r ((((r.num 8).txt 16).txt 16).fail (chkA 5 (ByteArray.size ((r.num 8).txtV 16)) (ByteArray.size (((r.num 8).txt 16).txtV 16)) 0 0)) 5 ((r.num 8).txtV 16) (((r.num 8).txt 16).txtV 16) 0 0 := by
  obtain ⟨hc, h0, e⟩ := fail_err _ _ h
  rw [e]
  obtain ⟨h0', ztx, btx, ptx⟩ := txt_inv _ 16 h0
  obtain ⟨h0'', znm, bnm, pnm⟩ := txt_inv _ 16 h0'
  obtain ⟨_, Nk, vk, zk, yk, bk, pk⟩ := num_inv _ 8 h0''
  rw [hk] at vk
  obtain rfl : Nk = 5 := by omega
  refine ⟨by omega, by omega, hc, by omega, by omega, by omega, by omega, ?_⟩
  refine ⟨enc 9 5 ++ txtB ((r.num 8).txtV 16) ++ txtB (((r.num 8).txt 16).txtV 16), ?_, ?_, ?_⟩
  · show putV 5 (some []) ((r.num 8).txtV 16) (((r.num 8).txt 16).txtV 16) 0 0 = _
    simp only [putV]
    simp [addS]
  · rw [bk, bnm, btx]
    simp only [List.append_assoc]
  · rw [ptx, pnm, pk]
    simp only [List.length_append]
    omega

theorem got6 (r : Rst) (hk : r.numV 8 = 6) (h : (((((r.num 8).txt 16).num 1099511627776).num 8).fail (chkA 6 (ByteArray.size ((r.num 8).txtV 16)) (ByteArray.size emp) (((r.num 8).txt 16).numV 1099511627776) ((((r.num 8).txt 16).num 1099511627776).numV 8))).err = 0) : Got r (((((r.num 8).txt 16).num 1099511627776).num 8).fail (chkA 6 (ByteArray.size ((r.num 8).txtV 16)) (ByteArray.size emp) (((r.num 8).txt 16).numV 1099511627776) ((((r.num 8).txt 16).num 1099511627776).numV 8))) 6 ((r.num 8).txtV 16) emp (((r.num 8).txt 16).numV 1099511627776) ((((r.num 8).txt 16).num 1099511627776).numV 8) := by
  obtain ⟨hc, h0, e⟩ := fail_err _ _ h
  rw [e]
  obtain ⟨h0', Nm, vm, zm, ym, bm, pm⟩ := num_inv _ 8 h0
  obtain ⟨h0'', Nn, vn, zn, yn, bn, pn⟩ := num_inv _ 1099511627776 h0'
  obtain ⟨h0''', znm, bnm, pnm⟩ := txt_inv _ 16 h0''
  obtain ⟨_, Nk, vk, zk, yk, bk, pk⟩ := num_inv _ 8 h0'''
  rw [hk] at vk
  obtain rfl : Nk = 6 := by omega
  refine ⟨by omega, by omega, hc, by omega, by simp [emp_size], by rw [vn]; omega, by rw [vm]; omega, ?_⟩
  refine ⟨enc 9 6 ++ txtB ((r.num 8).txtV 16) ++ enc 9 Nn ++ enc 9 Nm, ?_, ?_, ?_⟩
  · show putV 6 (some []) ((r.num 8).txtV 16) emp (((r.num 8).txt 16).numV 1099511627776) ((((r.num 8).txt 16).num 1099511627776).numV 8) = _
    simp only [putV]
    rw [vn, vm]
    simp [numS_nat, addS]
  · rw [bk, bnm, bn, bm]
    simp only [List.append_assoc]
  · rw [pm, pn, pnm, pk]
    simp only [List.length_append]
    omega

theorem got7 (r : Rst) (hk : r.numV 8 = 7) (h : (((r.num 8).txt 16).fail (chkA 7 (ByteArray.size ((r.num 8).txtV 16)) (ByteArray.size emp) 0 0)).err = 0) : Got r (((r.num 8).txt 16).fail (chkA 7 (ByteArray.size ((r.num 8).txtV 16)) (ByteArray.size emp) 0 0)) 7 ((r.num 8).txtV 16) emp 0 0 := by
  obtain ⟨hc, h0, e⟩ := fail_err _ _ h
  rw [e]
  obtain ⟨h0', znm, bnm, pnm⟩ := txt_inv _ 16 h0
  obtain ⟨_, Nk, vk, zk, yk, bk, pk⟩ := num_inv _ 8 h0'
  rw [hk] at vk
  obtain rfl : Nk = 7 := by omega
  refine ⟨by omega, by omega, hc, by omega, by simp [emp_size], by omega, by omega, ?_⟩
  refine ⟨enc 9 7 ++ txtB ((r.num 8).txtV 16), ?_, ?_, ?_⟩
  · show putV 7 (some []) ((r.num 8).txtV 16) emp 0 0 = _
    simp only [putV]
    simp [addS]
  · rw [bk, bnm]
    simp only [List.append_assoc]
  · rw [pnm, pk]
    simp only [List.length_append]
    omega

theorem got8 (r : Rst) (hk : r.numV 8 = 8) (h : ((r.num 8).fail (chkA 8 (ByteArray.size emp) (ByteArray.size emp) 0 0)).err = 0) : Got r ((r.num 8).fail (chkA 8 (ByteArray.size emp) (ByteArray.size emp) 0 0)) 8 emp emp 0 0 := by
  obtain ⟨hc, h0, e⟩ := fail_err _ _ h
  rw [e]
  obtain ⟨_, Nk, vk, zk, yk, bk, pk⟩ := num_inv _ 8 h0
  rw [hk] at vk
  obtain rfl : Nk = 8 := by omega
  refine ⟨by omega, by omega, hc, by simp [emp_size], by simp [emp_size], by omega, by omega, ?_⟩
  refine ⟨enc 9 8, ?_, ?_, ?_⟩
  · show putV 8 (some []) emp emp 0 0 = _
    simp only [putV]
    simp [addS]
  · rw [bk]
  · rw [pk]

/-- Any op is read. -/
theorem getOp_any {b : Nat} {D : Option Nat} {rv : Value} {r : Rst} {cs : List Comp} {w : World} (h : All (rdC b D rv r :: cs) w) (ht : ∀ w', All cs w' → Tab w') (hp : r.size ≤ 140737488355328) :
    Calls Tryz.prog 12 #[.pointer (some ⟨b, 0, none⟩)] w fun e w' => ∃ k nm tx n m R rv', e = .returned (opV k nm tx n m) ∧ All (rdC b D rv' R :: cs) w' ∧ ((R.err ≠ 0 ∧ k = 0 ∧ nm = emp ∧ tx = emp ∧ n = 0 ∧ m = 0) ∨ (R.err = 0 ∧ Got r R k nm tx n m)) := by
  have h1 := numR_val r.rs 8 13
  have h2 := numR_le r.rs 8 13 (by omega)
  have hv : 0 ≤ r.numV 8 ∧ r.numV 8 ≤ 8 := ⟨h1.1, h2⟩
  obtain hk | hk | hk | hk | hk | hk | hk | hk | hk : r.numV 8 = 0 ∨ r.numV 8 = 1 ∨ r.numV 8 = 2 ∨ r.numV 8 = 3 ∨ r.numV 8 = 4 ∨ r.numV 8 = 5 ∨ r.numV 8 = 6 ∨ r.numV 8 = 7 ∨ r.numV 8 = 8 := by omega
  · refine (get0 h ht hp hk).mono ?_
    rintro e w' ⟨rfl, rv', A⟩
    by_cases he : ((r.num 8).fail (chkA 0 (ByteArray.size emp) (ByteArray.size emp) 0 0)).err = 0
    · exact absurd (fail_err _ _ he).1 (by decide)
    · rw [gotV, if_neg he]
      exact ⟨_, _, _, _, _, _, rv', rfl, A, Or.inl ⟨he, rfl, rfl, rfl, rfl, rfl⟩⟩
  · refine (get1 h ht hp hk).mono ?_
    rintro e w' ⟨rfl, rv', A⟩
    by_cases he : (((r.num 8).txt 16).fail (chkA 1 (ByteArray.size ((r.num 8).txtV 16)) (ByteArray.size emp) 0 0)).err = 0
    · rw [gotV, if_pos he]
      exact ⟨_, _, _, _, _, _, rv', rfl, A, Or.inr ⟨he, got1 r hk he⟩⟩
    · rw [gotV, if_neg he]
      exact ⟨_, _, _, _, _, _, rv', rfl, A, Or.inl ⟨he, rfl, rfl, rfl, rfl, rfl⟩⟩
  · refine (get2 h ht hp hk).mono ?_
    rintro e w' ⟨rfl, rv', A⟩
    by_cases he : (((r.num 8).txt 16).fail (chkA 2 (ByteArray.size ((r.num 8).txtV 16)) (ByteArray.size emp) 0 0)).err = 0
    · rw [gotV, if_pos he]
      exact ⟨_, _, _, _, _, _, rv', rfl, A, Or.inr ⟨he, got2 r hk he⟩⟩
    · rw [gotV, if_neg he]
      exact ⟨_, _, _, _, _, _, rv', rfl, A, Or.inl ⟨he, rfl, rfl, rfl, rfl, rfl⟩⟩
  · refine (get3 h ht hp hk).mono ?_
    rintro e w' ⟨rfl, rv', A⟩
    by_cases he : ((((r.num 8).txt 16).txt 64).fail (chkA 3 (ByteArray.size ((r.num 8).txtV 16)) (ByteArray.size (((r.num 8).txt 16).txtV 64)) 0 0)).err = 0
    · rw [gotV, if_pos he]
      exact ⟨_, _, _, _, _, _, rv', rfl, A, Or.inr ⟨he, got3 r hk he⟩⟩
    · rw [gotV, if_neg he]
      exact ⟨_, _, _, _, _, _, rv', rfl, A, Or.inl ⟨he, rfl, rfl, rfl, rfl, rfl⟩⟩
  · refine (get4 h ht hp hk).mono ?_
    rintro e w' ⟨rfl, rv', A⟩
    by_cases he : ((((r.num 8).txt 16).num 1099511627776).fail (chkA 4 (ByteArray.size ((r.num 8).txtV 16)) (ByteArray.size emp) (((r.num 8).txt 16).numV 1099511627776) 0)).err = 0
    · rw [gotV, if_pos he]
      exact ⟨_, _, _, _, _, _, rv', rfl, A, Or.inr ⟨he, got4 r hk he⟩⟩
    · rw [gotV, if_neg he]
      exact ⟨_, _, _, _, _, _, rv', rfl, A, Or.inl ⟨he, rfl, rfl, rfl, rfl, rfl⟩⟩
  · refine (get5 h ht hp hk).mono ?_
    rintro e w' ⟨rfl, rv', A⟩
    by_cases he : ((((r.num 8).txt 16).txt 16).fail (chkA 5 (ByteArray.size ((r.num 8).txtV 16)) (ByteArray.size (((r.num 8).txt 16).txtV 16)) 0 0)).err = 0
    · rw [gotV, if_pos he]
      exact ⟨_, _, _, _, _, _, rv', rfl, A, Or.inr ⟨he, got5 r hk he⟩⟩
    · rw [gotV, if_neg he]
      exact ⟨_, _, _, _, _, _, rv', rfl, A, Or.inl ⟨he, rfl, rfl, rfl, rfl, rfl⟩⟩
  · refine (get6 h ht hp hk).mono ?_
    rintro e w' ⟨rfl, rv', A⟩
    by_cases he : (((((r.num 8).txt 16).num 1099511627776).num 8).fail (chkA 6 (ByteArray.size ((r.num 8).txtV 16)) (ByteArray.size emp) (((r.num 8).txt 16).numV 1099511627776) ((((r.num 8).txt 16).num 1099511627776).numV 8))).err = 0
    · rw [gotV, if_pos he]
      exact ⟨_, _, _, _, _, _, rv', rfl, A, Or.inr ⟨he, got6 r hk he⟩⟩
    · rw [gotV, if_neg he]
      exact ⟨_, _, _, _, _, _, rv', rfl, A, Or.inl ⟨he, rfl, rfl, rfl, rfl, rfl⟩⟩
  · refine (get7 h ht hp hk).mono ?_
    rintro e w' ⟨rfl, rv', A⟩
    by_cases he : (((r.num 8).txt 16).fail (chkA 7 (ByteArray.size ((r.num 8).txtV 16)) (ByteArray.size emp) 0 0)).err = 0
    · rw [gotV, if_pos he]
      exact ⟨_, _, _, _, _, _, rv', rfl, A, Or.inr ⟨he, got7 r hk he⟩⟩
    · rw [gotV, if_neg he]
      exact ⟨_, _, _, _, _, _, rv', rfl, A, Or.inl ⟨he, rfl, rfl, rfl, rfl, rfl⟩⟩
  · refine (get8 h ht hp hk).mono ?_
    rintro e w' ⟨rfl, rv', A⟩
    by_cases he : ((r.num 8).fail (chkA 8 (ByteArray.size emp) (ByteArray.size emp) 0 0)).err = 0
    · rw [gotV, if_pos he]
      exact ⟨_, _, _, _, _, _, rv', rfl, A, Or.inr ⟨he, got8 r hk he⟩⟩
    · rw [gotV, if_neg he]
      exact ⟨_, _, _, _, _, _, rv', rfl, A, Or.inl ⟨he, rfl, rfl, rfl, rfl, rfl⟩⟩

/-- A result that was read. -/
theorem res_got (r : Rst) (h : r.res.err = 0) : chkX r.resV.c r.resV.k r.resV.l = 0 ∧ r.resV.l.length ≤ 8 ∧ (∀ t ∈ r.resV.l, t.size ≤ 64) ∧ (0 ≤ r.resV.c ∧ r.resV.c ≤ 4) ∧ (0 ≤ r.resV.k ∧ r.resV.k ≤ 1099511627776) ∧ ∃ bs, putX (some []) r.resV.c r.resV.k r.resV.l = some bs ∧ r.rs = bs ++ r.res.rs ∧ r.res.place = r.place + bs.length := by
  have h' : r.res0.2.err = 0 := h
  rw [Rst.resV, if_pos h', Rst.res]
  unfold Rst.res0 at h' ⊢
  by_cases h0 : r.numV 4 = 0
  · rw [if_pos h0] at h' ⊢
    simp only at h' ⊢
    obtain ⟨a1, a2, a3, a4⟩ := items_inv _ _ h'
    obtain ⟨b1, N3, b2, b3, b4, b5, b6⟩ := num_inv _ 8 a1
    obtain ⟨c1, N2, c2, c3, c4, c5, c6⟩ := num_inv _ 1099511627776 b1
    obtain ⟨d1, N1, d2, d3, d4, d5, d6⟩ := num_inv _ 4 c1
    rw [h0] at d2
    obtain rfl : N1 = 0 := by omega
    rw [b2] at a2 a3 a4 ⊢
    simp only [Int.toNat_natCast] at a2 a3 a4 ⊢
    have hl := items_len (((r.num 4).num 1099511627776).num 8) N3
    generalize ((((r.num 4).num 1099511627776).num 8).items N3).1 = L at a2 a3 a4 hl ⊢
    generalize ((((r.num 4).num 1099511627776).num 8).items N3).2 = R at a3 a4 h' ⊢
    have hc : chkX 0 ((r.num 4).numV 1099511627776) L = 0 := by
      unfold chkX
      rw [if_neg (by omega), if_neg (by simp), if_neg (by rw [c2]; omega), if_neg (by omega), if_neg]
      rintro ⟨t, ht, h64⟩
      have := a2 t ht
      omega
    refine ⟨hc, by omega, a2, by omega, by rw [c2]; omega, enc 9 0 ++ enc 9 N2 ++ itemsB L, ?_, ?_, ?_⟩
    · unfold putX
      rw [if_pos hc, if_pos rfl, c2]
      have e0 := numS_nat (some []) 0
      rw [show ((0 : Nat) : Int) = 0 by rfl] at e0
      rw [e0, numS_nat]
      simp [addS]
    · rw [d5, c5, b5, a3, itemsB, hl]
      simp only [List.append_assoc]
    · rw [a4, b6, c6, d6]
      simp only [List.length_append, itemsB, hl]
      omega
  · rw [if_neg h0] at h' ⊢
    simp only at h' ⊢
    obtain ⟨d1, N1, d2, d3, d4, d5, d6⟩ := num_inv _ 4 h'
    have hc : chkX (r.numV 4) 0 [] = 0 := by
      unfold chkX
      rw [if_neg (by rw [d2]; omega), if_neg (by simp), if_neg (by omega), if_neg (by simp), if_neg (by simp)]
    refine ⟨hc, by simp, by simp, by rw [d2]; omega, by omega, enc 9 N1, ?_, d5, d6⟩
    unfold putX
    rw [if_pos hc, if_neg h0, d2, numS_nat]
    simp [addS]
theorem res_none (r : Rst) (h : r.res.err ≠ 0) : r.resV = ⟨0, 0, []⟩ := by
  have h' : r.res0.2.err ≠ 0 := h
  rw [Rst.resV, if_neg h']
end Go.Proofs.YtkcepkehgkkkbaaGreatDoor

namespace Go.Proofs.YtkcepkehgkkkbaaGreatDoor
open Go.RowKit
set_option linter.unusedVariables false

/-- Bytes that came in: an empty list may lie anywhere. -/
def ReadsW (w : World) (s : Value) (l : List UInt8) : Prop := Reads w s l ∨ (l = [] ∧ ∃ a c, s = .slice (some a) 0 c)

theorem ReadsW.below {w w' : World} {s : Value} {l : List UInt8} (h : ReadsW w s l) (hw : Below w.heap.size w w') : ReadsW w' s l := by
  rcases h with h | h
  · exact Or.inl (h.below hw)
  · exact Or.inr h

theorem ReadsW.form {w : World} {s : Value} {l : List UInt8} (h : ReadsW w s l) : ∃ ao c, s = .slice ao l.length c := by
  rcases h with h | ⟨rfl, a, c, rfl⟩
  · exact h.form
  · exact ⟨some a, c, rfl⟩

theorem ReadsW.at_u8 {w : World} {ao : Option Addr} {n c : Nat} {l : List UInt8} (h : ReadsW w (.slice ao n c) l) (k : Nat) (hk : k < l.length) : ∃ g o, ao = some ⟨g, o, none⟩ ∧ w.cell? ⟨g, o + k, none⟩ = some (.int .u8 ((l.getD k 0).toNat : Int)) := by
  rcases h with h | ⟨rfl, _⟩
  · exact h.at k hk
  · simp at hk

set_option maxHeartbeats 800000 in
set_option maxRecDepth 1000000 in
theorem clone_weird {w : World} (a : Addr) (c : Nat) :
    Calls Tryz.prog 48 #[.slice (some a) 0 c] w fun e w' => ∃ s', e = .returned s' ∧ w'.ownsRow w.heap.size 5 1 s' 0 [] ∧ Below w.heap.size w w' := by
  obtain ⟨i0, hi, hz0, hz1, hz2⟩ := info_parts Tryz.info5
  have he := fun w => Lib.run_eql_slice_nil (P := Tryz.prog) w 22 5 (some a) 0 c 0 0 Tryz.underlying22
  have hnews : ∀ j u, ([] : List Value)[j]? = some u → (w.alloc (.cells #[] 5)).cell? (a.add j) = some u := by
    intro j u hu
    simp at hu
  have h0 : (w.alloc (.cells #[] 5)).ownsRow w.heap.size 5 1 (.slice (some ⟨w.heap.size, 0, none⟩) 0 0) 0 [] := World.ownsRow_made w #[] 0 (Nat.le_refl _) (by unfold maxLen; omega) rfl
  go_enter Tryz.func48, Tryz.ntmps48
  go_wp2_with (at_builtin; refine wpList_append_own_at _ rfl (.tmp 5) (.tmp 6) 22 rfl w.heap.size 5 i0 (.int .u8 0) 1 1 Tryz.underlying22 hi hz0 hz1 hz2 rfl (by decide) _ _ _ rfl h0 a 0 c [] rfl rfl hnews (by simp) (by unfold maxLen; omega) (by omega) (by simp) ?_)
  intro v' w1 hown hgr hnil hat
  have R : Hid (w1.ownsRow w.heap.size 5 1 v' 0 [] ∧ Below w.heap.size w w1) := by
    refine ⟨by simpa using hown, ((Below.refl _ _).alloc (Nat.le_refl _) _).grown hgr (by simp) (fun k hk => ?_)⟩
    simp [Value.ownBlock] at hk
    omega
  clear hown hgr hnil hat h0
  go_wp2
  go_ret
  exact ⟨v', rfl, R.out.1, R.out.2⟩

theorem clone_w {w : World} {s : Value} {l : List UInt8} (h : ReadsW w s l) (hlen : l.length ≤ 140737488355328) :
    Calls Tryz.prog 48 #[s] w fun e w' => ∃ s', e = .returned s' ∧ w'.ownsRow w.heap.size 5 1 s' l.length (cellsB l) ∧ Below w.heap.size w w' := by
  rcases h with h | ⟨rfl, a, c, rfl⟩
  · exact clone_any h hlen
  · exact clone_weird a c

set_option maxHeartbeats 800000 in
set_option maxRecDepth 1000000 in
theorem NewReader_w {w : World} {s : Value} {l : List UInt8} (h : ReadsW w s l) (hlen : l.length ≤ 140737488355328) :
    Calls Tryz.prog 8 #[s] w fun e w' => ∃ b D rv, e = .returned (.pointer (some ⟨b, 0, none⟩)) ∧ Rd w' b D rv l 0 0 ∧ Below w.heap.size w w' ∧ w.heap.size ≤ b ∧ ∀ k, D = some k → w.heap.size ≤ k ∧ k < w'.heap.size := by
  have HH := hid h
  obtain ⟨ao, c, hf⟩ := h.form
  subst hf
  clear h
  go_enter Tryz.func8, Tryz.ntmps8
  go_wp2_with fail
  refine (clone_w HH.out hlen).mono ?_
  rintro e w1 ⟨s', rfl, h1, h2⟩
  obtain ⟨ao', c', hf⟩ := owns_form h1
  subst hf
  have H1 := hid h1
  have H2 := hid h2
  clear h1 h2
  go_wp2
  go_ret
  refine ⟨w1.heap.size, (Value.slice ao' l.length c').ownBlock, _, rfl, ⟨alloc_new_at _ _, (Reads.of_owns H1.out).below ((Below.refl _ _).alloc (Nat.le_refl _) _), fun k hk => hk, ?_, fun e => absurd rfl e, fun k hk => by have := (World.ownsRow.lt H1.out k hk).2; simp; omega⟩, H2.out.alloc H2.out.size _, H2.out.size, ?_⟩
  · intro e
    have := (World.ownsRow.lt H1.out _ e).2
    omega
  · intro k hk
    have := World.ownsRow.lt H1.out k hk
    simp
    omega

set_option maxHeartbeats 1600000 in
set_option maxRecDepth 1000000 in
/-- Lists that are alike. -/
theorem same_w {w : World} {s t : Value} {l : List UInt8} (hs : ReadsW w s l) (ht : ReadsW w t l) (hlen : l.length ≤ 140737488355328) :
    Calls Tryz.prog 45 #[s, t] w fun e w' => e = .returned (.bool true) ∧ Below w.heap.size w w' := by
  obtain ⟨ao, c, hf⟩ := hs.form
  obtain ⟨ao', c', hf'⟩ := ht.form
  subst hf hf'
  have HS := hid hs
  have HT := hid ht
  clear hs ht
  go_enter Tryz.func45, Tryz.ntmps45
  go_wp2
  go_loopw [5] (fun iv wr => ∃ (k q : Nat), k ≤ l.length ∧ iv = .int .i64 (k : Int) ∧ wr = w.drewN q) (fun iv _ => l.length - (intOf iv).toNat)
  case atStart => exact ⟨0, 0, by omega, rfl, rfl⟩
  case round =>
    obtain ⟨k, q, hk, rfl, rfl⟩ := hrel
    by_cases hlt : k < l.length
    · obtain ⟨g, o, rfl, h1⟩ := HS.out.at_u8 k hlt
      obtain ⟨g', o', rfl, h2⟩ := HT.out.at_u8 k hlt
      generalize (l.getD k 0).toNat = x at h1 h2
      have hb : ((x : Int) != (x : Int)) = false := by simp
      go_wp2
      go_region
      go_wp2
      go_roundw
      case rel => exact ⟨k + 1, q + 1, by omega, by go_num, by simp⟩
      case measure => simp [intOf]; omega
    · go_wp2
      go_ret
      exact ⟨rfl, ⟨rfl, rfl, rfl, Nat.le_refl _, fun _ _ => rfl⟩⟩

theorem newR {s : Value} {l : List UInt8} {cs : List Comp} {w : World} (h : All cs w) (hr : ReadsW w s l) (hlen : l.length ≤ 140737488355328) : Calls Tryz.prog 8 #[s] w fun e w' => ∃ b D rv, e = .returned (.pointer (some ⟨b, 0, none⟩)) ∧ All (rdC b D rv ⟨l, 0, 0⟩ :: cs) w' ∧ Below w.heap.size w w' :=
  (NewReader_w hr hlen).mono fun e w' ⟨b, D, rv, h1, h2, h3, h4, h5⟩ => ⟨b, D, rv, h1, h.add (Fr.below h3) (rdC_good _ _ _ _) h2 (fun k hk => by
    simp [rdC] at hk
    rcases hk with rfl | hk
    · exact ⟨h4, h2.lt⟩
    · exact h5 k hk), h3⟩
end Go.Proofs.YtkcepkehgkkkbaaGreatDoor

namespace Go.Proofs.YtkcepkehgkkkbaaGreatDoor
open Go.RowKit
set_option linter.unusedVariables false

/-- The document's reader. -/
structure XR (w : World) (b : Nat) (v : Value) (B : List UInt8) (at_ : Nat) (e : Int) : Prop where
  box : w.heap[b]? = some (.cells #[v, .int .i64 (at_ : Int), .int .i64 e] 92 (0, 0))
  row : w.ownsRow 0 5 1 v B.length (cellsB B)
  apart : v.ownBlock ≠ some b
  le : at_ ≤ B.length

/-- What it has left. -/
def rsX (B : List UInt8) (at_ : Nat) (e : Int) : List UInt8 := if e = 0 then B.drop at_ else []

theorem XR.form {w : World} {b : Nat} {v : Value} {B : List UInt8} {at_ : Nat} {e : Int} (h : XR w b v B at_ e) : ∃ ao c, v = .slice ao B.length c := owns_form h.row

theorem XR.byte {w : World} {b : Nat} {ao : Option Addr} {n c : Nat} {B : List UInt8} {at_ : Nat} {e : Int} (h : XR w b (.slice ao n c) B at_ e) (k : Nat) (hk : at_ + k < B.length) : ∃ g, ao = some ⟨g, 0, none⟩ ∧ w.cell? ⟨g, at_ + k, none⟩ = some (.int .u8 (((B.drop at_).getD k 0).toNat : Int)) := by
  have hr := h.row
  have hc := fun g => World.ownsRow.cells hr (g := g)
  rcases hr.2 with ⟨e, e0⟩ | ⟨g, cap, _, ev, _⟩
  · omega
  · simp only [Value.slice.injEq] at ev
    refine ⟨g, ev.1, ?_⟩
    have e1 : (B.drop at_).getD k 0 = B[at_ + k] := by
      rw [List.getD_eq_getElem?_getD, List.getElem?_drop, List.getElem?_eq_getElem hk]
      rfl
    rw [e1]
    have := hc g (by rw [ev.1]; rfl) (at_ + k) (.int .u8 ((B[at_ + k]).toNat : Int)) (by simp [cellsB, hk])
    simpa [Addr.add_lit] using this

theorem xor_form (acc x k most top : Nat) (hx : x < 256) (h : acc < 128 ^ k) (hk : k < most) (hm : most ≤ 10) (ht2 : most = 10 → top ≤ 1) (hw : ¬ (k + 1 = most ∧ top < x)) :
    bits BinOp.or IntKind.u64 (acc : Int) (IntKind.u64.wrap ((x : Int) % 128 * 2 ^ (7 * k))) = ((acc + x % 128 * 128 ^ k : Nat) : Int) := by
  have ha := acc_lt acc x k most top h hk hm ht2 hw
  have e3 : (x : Int) % 128 * 2 ^ (7 * k) = ((x % 128 * 128 ^ k : Nat) : Int) := by
    have : (2 : Nat) ^ (7 * k) = 128 ^ k := by rw [Nat.pow_mul]
    rw [← this]
    push_cast
    rfl
  have e4 : IntKind.u64.wrap ((x % 128 * 128 ^ k : Nat) : Int) = ((x % 128 * 128 ^ k : Nat) : Int) := by rw [IntKind.wrap_u64]; omega
  rw [e3, e4, u64_or_nat _ _ (by omega) ha.2.2, or_add _ _ _ h]

set_option maxHeartbeats 3200000 in
set_option maxRecDepth 1000000 in
theorem xlook_any {w : World} {b : Nat} {v : Value} {B : List UInt8} {at_ : Nat} {e : Int} (h : XR w b v B at_ e) (most top : Nat) (lI tI : Int) (hlI : lI = (most : Int) - 1) (htI : tI = (top : Int)) (hm0 : 2 ≤ most) (hm1 : most ≤ 10) (ht1 : top < 128) (ht2 : most = 10 → top ≤ 1) (hlen : B.length ≤ 140737488355328) :
    Calls Tryz.prog 52 #[.pointer (some ⟨b, 0, none⟩), .int .i64 lI, .int .u8 tI] w fun e w' => e = .returned (.tuple #[.int .u64 ((look most top 0 (B.drop at_) 0).1 : Int), .int .i64 ((look most top 0 (B.drop at_) 0).2.1 : Int), .int .i64 ((look most top 0 (B.drop at_) 0).2.2 : Int)]) ∧ ∃ q, w' = w.drewN q := by
  subst htI
  obtain ⟨last, rfl⟩ : ∃ last, most = last + 1 := ⟨most - 1, by omega⟩
  have hlI' : lI = (last : Int) := by omega
  subst hlI'
  obtain ⟨ao, c, hf⟩ := h.form
  subst hf
  have HR := hid h
  have c0 : w.cell? ⟨b, 0, none⟩ = some (.slice ao B.length c) := by rw [cell_at h.box]; rfl
  have c1 : w.cell? ⟨b, 1, none⟩ = some (.int .i64 (at_ : Int)) := by rw [cell_at h.box]; rfl
  have hle := h.le
  have HT2 := hid ht2
  clear h ht2 hlI
  go_enter Tryz.func52, Tryz.ntmps52
  go_wp2
  go_loopw [9, 10] (fun nv iv wr => ∃ (k acc q : Nat), at_ + k ≤ B.length ∧ k ≤ last ∧ iv = .int .i64 (k : Int) ∧ nv = .int .u64 (acc : Int) ∧ acc < 128 ^ k ∧ wr = w.drewN q ∧ Hid (look (last + 1) top k ((B.drop at_).drop k) acc = look (last + 1) top 0 (B.drop at_) 0)) (fun _ iv _ => last + 1 - (intOf iv).toNat)
  case atStart => exact ⟨0, 0, 0, by omega, by omega, rfl, rfl, by simp, rfl, rfl⟩
  case round =>
    obtain ⟨k, acc, q, hk, hkm, rfl, rfl, hacc, rfl, hlook⟩ := hrel
    by_cases hlt : at_ + k < B.length
    · obtain ⟨g, rfl, hcell⟩ := HR.out.byte k hlt
      have hdl : k < (B.drop at_).length := by rw [List.length_drop]; omega
      have HL := look_at (last + 1) top k acc (B.drop at_) hdl
      rw [hlook.out] at HL
      have hx : ((B.drop at_).getD k 0).toNat < 256 := ((B.drop at_).getD k 0).toNat_lt
      obtain ⟨x, hxe⟩ : ∃ x : Nat, x = ((B.drop at_).getD k 0).toNat := ⟨_, rfl⟩
      rw [← hxe] at HL hcell hx
      have HLL := hid HL
      have HA := hid hacc
      clear hlook HL hacc hxe hdl
      have hg1 : ¬ ((B.length : Int) ≤ (at_ : Int) + (k : Int)) := by omega
      have hg2 : (at_ : Int) + (k : Int) < (B.length : Int) := by omega
      go_wp2
      go_region
      go_wp2
      go_region
      clear hcell c0 c1 hg1 hg2
      by_cases hA : k + 1 = last + 1 ∧ top < x
      · have hb : ((k : Int) == (last : Int)) = true := by simp; omega
        have hgt : (top : Int) < (x : Int) := by omega
        have F := HLL.out
        rw [if_pos hA] at F
        have FF := hid F
        clear F hA HLL
        go_wp2
        go_ret3
        exact ⟨by rw [FF.out]; rfl, _, rfl⟩
      · have F := HLL.out
        rw [if_neg hA] at F
        have OF := hid (xor_form acc x k (last + 1) top hx HA.out (by omega) hm1 HT2.out hA)
        have AL := hid (acc_lt acc x k (last + 1) top HA.out (by omega) hm1 HT2.out hA)
        by_cases hB : 128 ≤ x
        · have hne : k + 1 ≠ last + 1 := fun e => hA ⟨e, by omega⟩
          have hb : ((k : Int) == (last : Int)) = false := by simp; omega
          have hh : decide ((x : Int) < 128) = false := by simp; omega
          rw [if_pos hB] at F
          have FF := hid F
          clear F hA HLL
          go_wp2
          go_roundw
          case rel => exact ⟨k + 1, _, _, by omega, by omega, by go_num, congrArg (Value.int .u64) OF.out, AL.out.2.1 (by omega), rfl, FF.out.symm⟩
          case measure => simp [intOf]; omega
        · have hh : (x : Int) < 128 := by omega
          rw [if_neg hB] at F
          by_cases hC : x = 0 ∧ 0 < k
          · rw [if_pos hC] at F
            have FF := hid F
            clear F HLL OF AL
            obtain ⟨rfl, hk0⟩ := hC
            by_cases hne : k = last
            · have hb : ((k : Int) == (last : Int)) = true := by simp; omega
              clear hne hA
              go_wp2
              go_ret3
              exact ⟨by rw [FF.out]; rfl, _, rfl⟩
            · have hb : ((k : Int) == (last : Int)) = false := by simp; omega
              clear hne hA
              go_wp2
              go_ret3
              exact ⟨by rw [FF.out]; rfl, _, rfl⟩
          · rw [if_neg hC] at F
            have FF := hid F
            have HC := hid hC
            have HAA := hid hA
            clear F hA HLL hC
            have fin : ∀ w' : World, (∃ q', w' = w.drewN q') → (Ending.returned (.tuple #[.int .u64 (bits BinOp.or IntKind.u64 (acc : Int) (IntKind.u64.wrap ((x : Int) % 128 * 2 ^ (7 * k)))), .int .i64 ((k : Int) + 1), .int .i64 0]) = .returned (.tuple #[.int .u64 ((look (last + 1) top 0 (B.drop at_) 0).1 : Int), .int .i64 ((look (last + 1) top 0 (B.drop at_) 0).2.1 : Int), .int .i64 ((look (last + 1) top 0 (B.drop at_) 0).2.2 : Int)]) ∧ ∃ q', w' = w.drewN q') := by
              intro w' hw'
              refine ⟨?_, hw'⟩
              rw [FF.out, OF.out]
              rfl
            have FIN := hid fin
            clear fin
            by_cases hx0 : x = 0
            · have hk0 : k = 0 := by
                by_cases h : k = 0
                · exact h
                · exact absurd ⟨hx0, by omega⟩ HC.out
              have hb2 : ((x : Int) == 0) = true := by simp; omega
              have hb3 : ((k : Int) == (last : Int)) = false := by simp; omega
              have hb4 : decide (0 < (k : Int)) = false := by simp; omega
              have hb5 : decide (0 < k) = false := by simp; omega
              clear hx0 hk0
              go_wp2
              go_ret3
              exact FIN.out _ ⟨_, rfl⟩
            · have hb2 : ((x : Int) == 0) = false := by simp; omega
              by_cases hne : k = last
              · have hb : ((k : Int) == (last : Int)) = true := by simp; omega
                have hle2 : decide ((top : Int) < (x : Int)) = false := by
                  have : ¬ top < x := fun h => HAA.out ⟨by omega, h⟩
                  simp; omega
                have hle3 : decide (top < x) = false := by simpa using hle2
                clear hne hx0
                go_wp2
                go_ret3
                exact FIN.out _ ⟨_, rfl⟩
              · have hb : ((k : Int) == (last : Int)) = false := by simp; omega
                clear hne hx0
                go_wp2
                go_ret3
                exact FIN.out _ ⟨_, rfl⟩
    · have hg1 : (B.length : Int) ≤ (at_ : Int) + (k : Int) := by omega
      have F := hlook.out
      rw [List.drop_drop, List.drop_eq_nil_of_le (by omega), look] at F
      have FF := hid F.symm
      clear F hlook
      go_wp2
      go_region
      go_wp2
      go_ret3
      exact ⟨by rw [FF.out]; rfl, _, rfl⟩

end Go.Proofs.YtkcepkehgkkkbaaGreatDoor
