import Derived.Test.YtkcepkehgkkkbaaGreatDoorPutX
namespace Go.Proofs.YtkcepkehgkkkbaaGreatDoor
open Go.RowKit
set_option linter.unusedVariables false

/-- What is to be written. -/
structure Wt where
  kind : Int
  N : Int
  k : Int
  nm : ByteArray
  tx : ByteArray
  n : Int
  m : Int
  c : Int
  x : Int
  s : Value
  items : List ByteArray

structure Ten (w : World) (g p : Nat) (e : Wt) : Prop where
  c0 : w.cell? ⟨g, p, none⟩ = some (.int .i64 e.kind)
  c1 : w.cell? ⟨g, p + 1, none⟩ = some (.int .i64 e.N)
  c2 : w.cell? ⟨g, p + 2, none⟩ = some (.int .i64 e.k)
  c3 : w.cell? ⟨g, p + 3, none⟩ = some (.string e.nm)
  c4 : w.cell? ⟨g, p + 4, none⟩ = some (.string e.tx)
  c5 : w.cell? ⟨g, p + 5, none⟩ = some (.int .i64 e.n)
  c6 : w.cell? ⟨g, p + 6, none⟩ = some (.int .i64 e.m)
  c7 : w.cell? ⟨g, p + 7, none⟩ = some (.int .i64 e.c)
  c8 : w.cell? ⟨g, p + 8, none⟩ = some (.int .i64 e.x)
  c9 : w.cell? ⟨g, p + 9, none⟩ = some e.s
theorem Ten.later {w w' : World} {g p : Nat} {e : Wt} (h : Ten w g p e) (hg : g < w.heap.size) (hb : Below w.heap.size w w') : Ten w' g p e :=
  ⟨cell_under hb hg h.c0, cell_under hb hg h.c1, cell_under hb hg h.c2, cell_under hb hg h.c3, cell_under hb hg h.c4, cell_under hb hg h.c5, cell_under hb hg h.c6, cell_under hb hg h.c7, cell_under hb hg h.c8, cell_under hb hg h.c9⟩

def i64 (n : Int) : Prop := -9223372036854775808 ≤ n ∧ n < 9223372036854775808
structure Wt.Ok (e : Wt) : Prop where
  kind : i64 e.kind
  N : i64 e.N
  n : i64 e.n
  m : i64 e.m
  c : i64 e.c
  x : i64 e.x
/-- How much an entry writes at most. -/
def Wt.wt (e : Wt) : Nat := e.nm.size + e.tx.size + bulkT e.items + e.items.length + 100
def total (xs : List Wt) : Nat := (xs.map Wt.wt).sum

/-- A nil list has no room. -/
def NilOk (s : Value) : Prop := ∀ n c, s = .slice none n c → c = 0

/-- A script that came in. -/
def ScriptAt (w : World) (v : Value) (xs : List Wt) : Prop :=
  ∃ ao c, v = .slice ao xs.length c ∧ xs.length ≤ c ∧ ∀ i (h : i < xs.length), ∃ g o, ao = some ⟨g, o, none⟩ ∧ g < w.heap.size ∧ Ten w g (o + i * 10) xs[i] ∧ (Txts w xs[i].s xs[i].items ∧ NilOk xs[i].s) ∧ xs[i].Ok

/-- What PutOp writes. -/
def putA (k : Int) (st : Option (List UInt8)) (nm tx : ByteArray) (n m : Int) : Option (List UInt8) := if chkA k nm.size tx.size n m = 0 then putV k.toNat st nm tx n m else none
def stepW (st : Option (List UInt8)) (e : Wt) : Option (List UInt8) := if e.kind = 0 then numS st e.N else if e.kind = 1 then putA e.k st e.nm e.tx e.n e.m else putX st e.c e.x e.items

theorem lenS_none : lenS none = 0 := rfl
theorem putA_len (k : Int) (st : Option (List UInt8)) (nm tx : ByteArray) (n m : Int) : lenS (putA k st nm tx n m) ≤ lenS st + (nm.size + tx.size + 60) := by
  unfold putA
  split
  · have h0 := lenS_nat st k.toNat
    have h1 := lenS_txt (addS st (enc 9 k.toNat)) nm
    have h2 := lenS_txt (addS (addS st (enc 9 k.toNat)) (enc 9 nm.size ++ nm.data.toList)) tx
    have h3 := lenS_num (addS (addS st (enc 9 k.toNat)) (enc 9 nm.size ++ nm.data.toList)) n
    have h4 := lenS_num (numS (addS (addS st (enc 9 k.toNat)) (enc 9 nm.size ++ nm.data.toList)) n) m
    unfold putV txtB
    repeat' split
    all_goals omega
  · rw [lenS_none]; omega
theorem putX_len (st : Option (List UInt8)) (c n : Int) (l : List ByteArray) : lenS (putX st c n l) ≤ lenS st + (bulkT l + 60) := by
  have h1 := lenS_num st c
  have h2 := lenS_num (numS st c) n
  have h3 := lenS_addS (numS (numS st c) n) (itemsB l)
  have h4 := itemsB_len l
  unfold putX
  repeat' split
  · omega
  · omega
  · rw [lenS_none]; omega
theorem stepW_len (st : Option (List UInt8)) (e : Wt) : lenS (stepW st e) ≤ lenS st + e.wt := by
  unfold stepW Wt.wt
  have h1 := lenS_num st e.N
  have h2 := putA_len e.k st e.nm e.tx e.n e.m
  have h3 := putX_len st e.c e.x e.items
  repeat' split
  all_goals omega
theorem fold_len (xs : List Wt) (st : Option (List UInt8)) : lenS (xs.foldl stepW st) ≤ lenS st + total xs := by
  induction xs generalizing st with
  | nil => simp [total]
  | cons e xs ih =>
    have h1 := ih (stepW st e)
    have h2 := stepW_len st e
    simp only [List.foldl_cons, total, List.map_cons, List.sum_cons] at h1 ⊢
    omega
theorem total_take {xs : List Wt} {i : Nat} (hi : i < xs.length) : total (xs.take i) + xs[i].wt ≤ total xs := by
  induction xs generalizing i with
  | nil => simp at hi
  | cons e xs ih =>
    cases i with
    | zero => simp [total]
    | succ i =>
      have := ih (i := i) (by simpa using hi)
      simp only [total, List.take_succ_cons, List.map_cons, List.sum_cons, List.getElem_cons_succ] at this ⊢
      omega
theorem fold_take {xs : List Wt} {i : Nat} (hi : i < xs.length) (st : Option (List UInt8)) : (xs.take (i + 1)).foldl stepW st = stepW ((xs.take i).foldl stepW st) xs[i] := by
  rw [List.take_succ_eq_append_getElem hi, List.foldl_append]; rfl

theorem putO_any {b : Nat} {v : Value} {st : Option (List UInt8)} {cs : List Comp} {w : World} (h : All (wrC b v st :: cs) w) (ht : ∀ w', All cs w' → Tab w') (k : Int) (nm tx : ByteArray) (n m : Int) (hn : n < 9223372036854775808) (hm : m < 9223372036854775808) (hlen : lenS st + nm.size + tx.size + 100 ≤ 140737488355328) :
    Calls Tryz.prog 27 #[.pointer (some ⟨b, 0, none⟩), opV k nm tx n m] w fun e w' => e = .returned (.tuple #[]) ∧ ∃ v', All (wrC b v' (putA k st nm tx n m) :: cs) w' := by
  by_cases hk : k < 1 ∨ 8 < k
  · rw [putA, chkA_out hk, if_neg (by omega)]
    exact put_out h ht hk nm tx n m hlen
  · obtain rfl | rfl | rfl | rfl | rfl | rfl | rfl | rfl : k = 1 ∨ k = 2 ∨ k = 3 ∨ k = 4 ∨ k = 5 ∨ k = 6 ∨ k = 7 ∨ k = 8 := by omega
    · exact put1 h ht nm tx n m hn hm hlen
    · exact put2 h ht nm tx n m hn hm hlen
    · exact put3 h ht nm tx n m hn hm hlen
    · exact put4 h ht nm tx n m hn hm hlen
    · exact put5 h ht nm tx n m hn hm hlen
    · exact put6 h ht nm tx n m hn hm hlen
    · exact put7 h ht nm tx n m hn hm hlen
    · exact put8 h ht nm tx n m hn hm hlen
/-- Texts are laid behind a list's own. -/
theorem wpList_append_txts {w : World} {ops : Array Oper} {rest : List Oper} {o : Oper} {a : Act} {Q : Exit → Act → World → Prop} (hg : o.guard = none) (s x : Operand)
    (ho : o.op = .call { callee := .builtin .append, args := #[s, x], argTypes := #[39, 39] }) (v : Value) (us : List ByteArray) (hs : a.eval s = v) (hown : w.ownsRow 0 9 1 v us.length (txtV us))
    (so : Option Addr) (sc : Nat) (l : List ByteArray) (hx : a.eval x = .slice so l.length sc) (hT : Txts w (.slice so l.length sc) l) (hnil : NilOk (.slice so l.length sc)) (hl : us.length + l.length ≤ 8796093022208)
    (h : ∀ v' w', w'.ownsRow 0 9 1 v' (us.length + l.length) (txtV (us ++ l)) → w.grownBy w' v.ownBlock → (v'.ownBlock = v.ownBlock ∨ v'.ownBlock = some w.heap.size) → wpList Tryz.prog ops Q rest (a.put o.dst v') w') :
    wpList Tryz.prog ops Q (o :: rest) a w := by
  obtain ⟨i0, hi, hz0, hz1, hz2⟩ := info_parts Tryz.info9
  cases so with
  | none =>
    obtain rfl := hnil _ _ rfl
    obtain ⟨ao, c, e, hc, hcase⟩ := hT
    simp only [Value.slice.injEq] at e
    have hl0 : l = [] := by
      have : l.length ≤ 0 := by omega
      exact List.length_eq_zero_iff.1 (by omega)
    subst hl0
    refine wpList_append_own_none hg s x 39 ho 0 9 i0 1 Tryz.und39 hi v us.length (txtV us) hs hown hx ?_
    have := h v w (by simpa using hown) ⟨rfl, rfl, rfl, Nat.le_refl _, fun _ _ _ => rfl⟩ (Or.inl rfl)
    exact this
  | some ad =>
    have hnews : ∀ j u, (txtV l)[j]? = some u → w.cell? (ad.add j) = some u := by
      intro j u hu
      have hj : j < l.length := by have := (List.getElem?_eq_some_iff.1 hu).1; simpa using this
      obtain ⟨g, o', ea, _, hc⟩ := hT.at hj
      cases ea
      rw [Addr.add_lit, hc, ← hu]
      simp [hj]
    refine wpList_append_own_at w hg s x 39 ho 0 9 i0 (.string ⟨#[]⟩) 1 16 Tryz.und39 hi hz0 hz1 hz2 rfl (by decide) v us.length (txtV us) hs hown ad l.length sc (txtV l) hx (by simp) hnews (fun u hu => by obtain ⟨t, _, rfl⟩ := List.mem_map.1 hu; rfl) (by unfold maxLen; omega) (by omega) (Nat.zero_le _) ?_
    intro v' w' h1 h2 _ h4
    exact h v' w' (by rw [txtV, List.map_append]; exact h1) h2 h4
end Go.Proofs.YtkcepkehgkkkbaaGreatDoor
