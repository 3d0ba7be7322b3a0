import Derived.Test.YtagdpfghooogfaaLoad
namespace Go.Proofs.Ytagdpfghooogfaa
open Go.RowKit
set_option linter.unusedVariables false

theorem num_enc (n : Nat) (hn : n < 9223372036854775808) (rest : List UInt8) (pl : Nat) (err most : Int) (hm : (n : Int) ≤ most) : (⟨enc 9 n ++ rest, pl, err⟩ : Rst).numV most = n ∧ (⟨enc 9 n ++ rest, pl, err⟩ : Rst).num most = ⟨rest, pl + (enc 9 n).length, err⟩ := by
  have h := numR_enc n hn rest most 13 hm
  constructor
  · simp only [Rst.numV, h]
  · simp only [Rst.num, h, Rst.aft, aft]
    simp

theorem strB_self (s : ByteArray) : strB s.data.toList = s := by cases s; simp [strB]
theorem txt_enc (s : ByteArray) (hs : s.size ≤ 64) (rest : List UInt8) (pl : Nat) (err : Int) : (⟨(enc 9 s.size ++ s.data.toList) ++ rest, pl, err⟩ : Rst).txtV 64 = s ∧ (⟨(enc 9 s.size ++ s.data.toList) ++ rest, pl, err⟩ : Rst).txt 64 = ⟨rest, pl + ((enc 9 s.size).length + s.size), err⟩ := by
  have hl := str_len s
  have h := runR_enc s.data.toList rest (by omega) 64 (by omega)
  rw [hl, ← List.append_assoc] at h
  constructor
  · simp only [Rst.txtV, h]
    exact strB_self s
  · simp only [Rst.txt, h, Rst.aft, aft, if_true]
    simp only [Rst.mk.injEq, and_true]
    have : (enc 9 s.size ++ s.data.toList).length = (enc 9 s.size).length + s.size := by rw [List.length_append, hl]
    rw [← this, List.drop_left]

theorem textsB_drop {l : List ByteArray} {k : Nat} (hk : k < l.length) : textsB (l.drop k) = (enc 9 l[k].size ++ l[k].data.toList) ++ textsB (l.drop (k + 1)) := by
  rw [List.drop_eq_getElem_cons hk, textsB, List.flatMap_cons, ← textsB]

theorem items_enc (l : List ByteArray) (hl : ∀ t ∈ l, t.size ≤ 64) (rest : List UInt8) (pl : Nat) (err : Int) : ∀ k, k ≤ l.length → ∃ pl', (⟨textsB l ++ rest, pl, err⟩ : Rst).items k = (l.take k, ⟨textsB (l.drop k) ++ rest, pl', err⟩) := by
  intro k
  induction k with
  | zero => intro _; exact ⟨pl, by simp [Rst.items]⟩
  | succ k ih =>
    intro hk
    obtain ⟨pl', h⟩ := ih (by omega)
    have hk' : k < l.length := by omega
    have ht := txt_enc l[k] (hl _ (List.getElem_mem hk')) (textsB (l.drop (k + 1)) ++ rest) pl' err
    rw [← List.append_assoc, ← textsB_drop hk'] at ht
    refine ⟨pl' + ((enc 9 l[k].size).length + l[k].size), ?_⟩
    simp only [Rst.items, h]
    rw [ht.1, ht.2, List.take_succ_eq_append_getElem hk']

theorem res_enc {c k : Int} {l : List ByteArray} (h0 : 0 ≤ c) (h1 : c ≤ 4) (h2 : 0 ≤ k) (h3 : k ≤ 1099511627776) (h4 : c ≠ 0 → k = 0 ∧ l = []) (h5 : l.length ≤ 8) (h6 : ∀ t ∈ l, t.size ≤ 64) (pl : Nat) :
    ∃ pl', (⟨enc 9 c.toNat ++ (if c = 0 then enc 9 k.toNat ++ itemsB l else []), pl, 0⟩ : Rst).res0 = (⟨c, k, l⟩, ⟨[], pl', 0⟩) := by
  have a1 := num_enc c.toNat (by omega) (if c = 0 then enc 9 k.toNat ++ itemsB l else []) pl 0 4 (by omega)
  rw [show ((c.toNat : Nat) : Int) = c by omega] at a1
  by_cases hc : c = 0
  · subst hc
    rw [if_pos rfl] at a1 ⊢
    have a2 := num_enc k.toNat (by omega) (itemsB l) (pl + (enc 9 (0 : Int).toNat).length) 0 1099511627776 (by omega)
    rw [show ((k.toNat : Nat) : Int) = k by omega] at a2
    have a3 := num_enc l.length (by omega) (textsB l) (pl + (enc 9 (0 : Int).toNat).length + (enc 9 k.toNat).length) 0 8 (by omega)
    obtain ⟨pl', a4⟩ := items_enc l h6 [] (pl + (enc 9 (0 : Int).toNat).length + (enc 9 k.toNat).length + (enc 9 l.length).length) 0 l.length (Nat.le_refl _)
    simp only [List.append_nil, List.take_length, List.drop_length] at a4
    refine ⟨pl', ?_⟩
    rw [Rst.res0, a1.1, if_pos rfl, a1.2, a2.1, a2.2]
    unfold itemsB
    rw [a3.1, a3.2, show ((l.length : Nat) : Int).toNat = l.length by simp, a4]
    simp [textsB]
  · obtain ⟨rfl, rfl⟩ := h4 hc
    rw [if_neg hc] at a1 ⊢
    refine ⟨pl + (enc 9 c.toNat).length, ?_⟩
    rw [Rst.res0, a1.1, if_neg hc, a1.2]

/-- A row's bytes are read as that row. -/
theorem row_back {n a c k : Int} {l : List ByteArray} (h : may n a c k l = true) : rowOk (rowB n a c k l) = true ∧ rowR (rowB n a c k l) = ⟨n, a, c, k, l⟩ := by
  obtain ⟨h1, h2, h3, h4, h5, h6, h7, h8, h9, h10, h11, h12⟩ := may_parts h
  have b1 := num_enc n.toNat (by omega) (enc 9 a.toNat ++ (enc 9 c.toNat ++ if c = 0 then enc 9 k.toNat ++ itemsB l else [])) 0 0 1099511627776 (by omega)
  have b2 := num_enc a.toNat (by omega) (enc 9 c.toNat ++ if c = 0 then enc 9 k.toNat ++ itemsB l else []) (0 + (enc 9 n.toNat).length) 0 1099511627776 (by omega)
  rw [show ((n.toNat : Nat) : Int) = n by omega] at b1
  rw [show ((a.toNat : Nat) : Int) = a by omega] at b2
  obtain ⟨pl', b3⟩ := res_enc h5 h6 h7 h8 h9 h10 h11 (0 + (enc 9 n.toNat).length + (enc 9 a.toNat).length)
  have e1 : (rst0 (rowB n a c k l)).num 1099511627776 = _ := b1.2
  have e1v : (rst0 (rowB n a c k l)).numV 1099511627776 = n := b1.1
  have e2 : ((rst0 (rowB n a c k l)).num 1099511627776).num 1099511627776 = _ := (congrArg (fun r => Rst.num r 1099511627776) e1).trans b2.2
  have e2v : ((rst0 (rowB n a c k l)).num 1099511627776).numV 1099511627776 = a := (congrArg (fun r => Rst.numV r 1099511627776) e1).trans b2.1
  have e3 : (((rst0 (rowB n a c k l)).num 1099511627776).num 1099511627776).resV = ⟨c, k, l⟩ := by rw [e2, Rst.resV, b3]; rfl
  have e4 : (((rst0 (rowB n a c k l)).num 1099511627776).num 1099511627776).res = ⟨[], pl', 0⟩ := by rw [e2, Rst.res, b3]
  have er : rowR (rowB n a c k l) = ⟨n, a, c, k, l⟩ := by simp only [rowR, e1v, e2v, e3]
  refine ⟨?_, er⟩
  rw [rowOk, er, rowE, e4]
  simp [Rst.close, h]

end Go.Proofs.Ytagdpfghooogfaa
