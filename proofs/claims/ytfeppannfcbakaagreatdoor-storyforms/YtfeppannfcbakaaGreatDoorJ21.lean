import Derived.Test.YtfeppannfcbakaaGreatDoorJ20
namespace Go.Proofs.YtfeppannfcbakaaGreatDoor
open Go.RowKit
set_option linter.unusedVariables false
set_option maxRecDepth 100000

/-- Numbers of a machine. -/
structure Ev.Rg (e : Ev) : Prop where
  a : e.a ≤ 9223372036854775807
  nb : e.nb ≤ 9223372036854775807
  nm : e.nm ≤ 9223372036854775807
  wh : e.wh ≤ 9223372036854775807
  cd : e.cd ≤ 9223372036854775807
  ec : e.ec ≤ 9223372036854775807
  en : e.en ≤ 9223372036854775807
  l0 : e.l0 ≤ 9223372036854775807
  l2 : e.l2 ≤ 9223372036854775807
  l3 : e.l3 ≤ 9223372036854775807
  l4 : e.l4 ≤ 9223372036854775807
  l5 : e.l5 ≤ 9223372036854775807
  l6 : e.l6 ≤ 9223372036854775807
  l7 : e.l7 ≤ 9223372036854775807
  sn : e.sn ≤ 9223372036854775807
  sa : e.sa ≤ 9223372036854775807
theorem left_empty {e : Ev} (h : e.inForm = true) : okL (kindT e.k) e.cells = true ∧ e.left.empty = true := by
  unfold Ev.inForm at h
  split at h
  · simp at h
  · simpa using h
set_option maxHeartbeats 3200000 in
/-- All things of an event in form may be written. -/
theorem fit_of {e : Ev} {items : Ws} {data : List UInt8} (hF : e.inForm = true) (hX : ersL (er1 e.cells items) (kindT e.k) = 0) (hR : e.Rg) (hd : data.length = e.dik) : ∀ t ∈ (kindT e.k).flatMap sub, Fit e.cells items data t := by
  have hk := inForm_k hF
  have hO := (left_empty hF).1
  have hE := ersL_zero hX
  clear hX
  obtain hk | hk | hk | hk | hk | hk | hk | hk | hk | hk | hk : e.k = 1 ∨ e.k = 2 ∨ e.k = 3 ∨ e.k = 4 ∨ e.k = 5 ∨ e.k = 6 ∨ e.k = 7 ∨ e.k = 8 ∨ e.k = 9 ∨ e.k = 10 ∨ e.k = 11 := by omega
  · have hK : kindT e.k = [.int 1, .cod 5] := by rw [hk]; rfl
    rw [hK] at hO hE ⊢
    simp [okL, okT, okF, ok1, sub, clr, clrF, clr1, valI, Ev.cells] at hO
    intro t ht
    simp only [List.flatMap_cons, List.flatMap_nil, sub, List.cons_append, List.nil_append, List.mem_cons, List.not_mem_nil, or_false, List.append_nil] at ht
    rcases ht with rfl | rfl
    · exact ⟨by simp [valI, Ev.cells]; omega, hR.a⟩
    · exact ⟨by simp [valI, Ev.cells]; omega, hR.cd⟩
  · have hK : kindT e.k = [.int 1, .int 2, .op 7] := by rw [hk]; rfl
    rw [hK] at hO hE ⊢
    simp [okL, okT, okF, ok1, sub, clr, clrF, clr1, valI, Ev.cells] at hO
    intro t ht
    simp only [List.flatMap_cons, List.flatMap_nil, sub, List.cons_append, List.nil_append, List.mem_cons, List.not_mem_nil, or_false, List.append_nil] at ht
    rcases ht with rfl | rfl | rfl
    · exact ⟨by simp [valI, Ev.cells]; omega, hR.a⟩
    · exact ⟨by simp [valI, Ev.cells]; omega, hR.nb⟩
    · exact hE _ (by simp)
  · have hK : kindT e.k = [.int 1, .int 2, .int 4, .op 7] := by rw [hk]; rfl
    rw [hK] at hO hE ⊢
    simp [okL, okT, okF, ok1, sub, clr, clrF, clr1, valI, Ev.cells] at hO
    intro t ht
    simp only [List.flatMap_cons, List.flatMap_nil, sub, List.cons_append, List.nil_append, List.mem_cons, List.not_mem_nil, or_false, List.append_nil] at ht
    rcases ht with rfl | rfl | rfl | rfl
    · exact ⟨by simp [valI, Ev.cells]; omega, hR.a⟩
    · exact ⟨by simp [valI, Ev.cells]; omega, hR.nb⟩
    · exact ⟨by simp [valI, Ev.cells]; omega, hR.wh⟩
    · exact hE _ (by simp)
  · have hK : kindT e.k = [.int 1, .int 2, .int 3, .res 19] := by rw [hk]; rfl
    rw [hK] at hO hE ⊢
    simp [okL, okT, okF, ok1, sub, clr, clrF, clr1, valI, Ev.cells] at hO
    intro t ht
    simp only [List.flatMap_cons, List.flatMap_nil, sub, List.cons_append, List.nil_append, List.mem_cons, List.not_mem_nil, or_false, List.append_nil] at ht
    rcases ht with rfl | rfl | rfl | rfl
    · exact ⟨by simp [valI, Ev.cells]; omega, hR.a⟩
    · exact ⟨by simp [valI, Ev.cells]; omega, hR.nb⟩
    · exact ⟨by simp [valI, Ev.cells]; omega, hR.nm⟩
    · exact hE _ (by simp)
  · have hK : kindT e.k = [.int 1, .int 2, .int 3, .int 4, .res 19] := by rw [hk]; rfl
    rw [hK] at hO hE ⊢
    simp [okL, okT, okF, ok1, sub, clr, clrF, clr1, valI, Ev.cells] at hO
    intro t ht
    simp only [List.flatMap_cons, List.flatMap_nil, sub, List.cons_append, List.nil_append, List.mem_cons, List.not_mem_nil, or_false, List.append_nil] at ht
    rcases ht with rfl | rfl | rfl | rfl | rfl
    · exact ⟨by simp [valI, Ev.cells]; omega, hR.a⟩
    · exact ⟨by simp [valI, Ev.cells]; omega, hR.nb⟩
    · exact ⟨by simp [valI, Ev.cells]; omega, hR.nm⟩
    · exact ⟨by simp [valI, Ev.cells]; omega, hR.wh⟩
    · exact hE _ (by simp)
  · have hK : kindT e.k = [.int 1, .int 3, .fre 6, .int 12, .int 13, .op 14, .res 19] := by rw [hk]; rfl
    rw [hK] at hO hE ⊢
    simp [okL, okT, okF, ok1, sub, clr, clrF, clr1, valI, Ev.cells] at hO
    intro t ht
    simp only [List.flatMap_cons, List.flatMap_nil, sub, List.cons_append, List.nil_append, List.mem_cons, List.not_mem_nil, or_false, List.append_nil] at ht
    rcases ht with rfl | rfl | rfl | rfl | rfl | rfl | rfl
    · exact ⟨by simp [valI, Ev.cells]; omega, hR.a⟩
    · exact ⟨by simp [valI, Ev.cells]; omega, hR.nm⟩
    · exact trivial
    · exact ⟨by simp [valI, Ev.cells]; omega, hR.ec⟩
    · exact ⟨by simp [valI, Ev.cells]; omega, hR.en⟩
    · exact hE _ (by simp)
    · exact hE _ (by simp)
  · have hK : kindT e.k = [.int 1, .look 22] := by rw [hk]; rfl
    rw [hK] at hO hE ⊢
    simp [okL, okT, okF, ok1, sub, lookL, clr, clrF, clr1, valI, Ev.cells] at hO
    intro t ht
    simp only [List.flatMap_cons, List.flatMap_nil, sub, lookL, List.cons_append, List.nil_append, List.mem_cons, List.not_mem_nil, or_false, List.append_nil] at ht
    rcases ht with rfl | rfl | rfl | rfl | rfl | rfl | rfl | rfl | rfl
    · exact ⟨by simp [valI, Ev.cells]; omega, hR.a⟩
    · exact ⟨by simp [valI, Ev.cells]; omega, hR.l0⟩
    · exact ⟨by simp [valI, Ev.cells]; omega, by simp [valI, Ev.cells]; omega⟩
    · exact ⟨by simp [valI, Ev.cells]; omega, hR.l2⟩
    · exact ⟨by simp [valI, Ev.cells]; omega, hR.l3⟩
    · exact ⟨by simp [valI, Ev.cells]; omega, hR.l4⟩
    · exact ⟨by simp [valI, Ev.cells]; omega, hR.l5⟩
    · exact ⟨by simp [valI, Ev.cells]; omega, hR.l6⟩
    · exact ⟨by simp [valI, Ev.cells]; omega, hR.l7⟩
  · have hK : kindT e.k = [.int 1] := by rw [hk]; rfl
    rw [hK] at hO hE ⊢
    simp [okL, okT, okF, ok1, sub, valI, Ev.cells] at hO
    intro t ht
    simp only [List.flatMap_cons, List.flatMap_nil, sub, List.mem_cons, List.not_mem_nil, or_false, List.append_nil] at ht
    subst ht
    · exact ⟨by simp [valI, Ev.cells]; omega, hR.a⟩
  · have hK : kindT e.k = [.int 1] := by rw [hk]; rfl
    rw [hK] at hO hE ⊢
    simp [okL, okT, okF, ok1, sub, valI, Ev.cells] at hO
    intro t ht
    simp only [List.flatMap_cons, List.flatMap_nil, sub, List.mem_cons, List.not_mem_nil, or_false, List.append_nil] at ht
    subst ht
    · exact ⟨by simp [valI, Ev.cells]; omega, hR.a⟩
  · have hK : kindT e.k = [.int 1, .look 22] := by rw [hk]; rfl
    rw [hK] at hO hE ⊢
    simp [okL, okT, okF, ok1, sub, lookL, clr, clrF, clr1, valI, Ev.cells] at hO
    intro t ht
    simp only [List.flatMap_cons, List.flatMap_nil, sub, lookL, List.cons_append, List.nil_append, List.mem_cons, List.not_mem_nil, or_false, List.append_nil] at ht
    rcases ht with rfl | rfl | rfl | rfl | rfl | rfl | rfl | rfl | rfl
    · exact ⟨by simp [valI, Ev.cells]; omega, hR.a⟩
    · exact ⟨by simp [valI, Ev.cells]; omega, hR.l0⟩
    · exact ⟨by simp [valI, Ev.cells]; omega, by simp [valI, Ev.cells]; omega⟩
    · exact ⟨by simp [valI, Ev.cells]; omega, hR.l2⟩
    · exact ⟨by simp [valI, Ev.cells]; omega, hR.l3⟩
    · exact ⟨by simp [valI, Ev.cells]; omega, hR.l4⟩
    · exact ⟨by simp [valI, Ev.cells]; omega, hR.l5⟩
    · exact ⟨by simp [valI, Ev.cells]; omega, hR.l6⟩
    · exact ⟨by simp [valI, Ev.cells]; omega, hR.l7⟩
  · have hK : kindT e.k = [.int 1, .sht 30] := by rw [hk]; rfl
    rw [hK] at hO hE ⊢
    simp [okL, okT, okF, ok1, sub, shtL, clr, clrF, clr1, valI, lenS, Ev.cells] at hO
    intro t ht
    simp only [List.flatMap_cons, List.flatMap_nil, sub, shtL, List.cons_append, List.nil_append, List.mem_cons, List.not_mem_nil, or_false, List.append_nil] at ht
    rcases ht with rfl | rfl | rfl | rfl
    · exact ⟨by simp [valI, Ev.cells]; omega, hR.a⟩
    · exact ⟨by simp [valI, Ev.cells]; omega, hR.sn⟩
    · exact ⟨by simp [valI, Ev.cells]; omega, hR.sa⟩
    · show data.length ≤ 2304
      omega
end Go.Proofs.YtfeppannfcbakaaGreatDoor

namespace Go.Proofs.YtfeppannfcbakaaGreatDoor
open Go.RowKit
set_option linter.unusedVariables false
set_option maxRecDepth 100000

theorem len_nil {α : Type} {l : List α} (h : l.length = 0) : l = [] := List.eq_nil_of_length_eq_zero h
/-- An event with other lists' headers. -/
def Ev.cells2 (e : Ev) (rv dv : Value) : List Value := (e.cells.set 21 rv).set 32 dv
theorem vs_cons {α : Type} {vs : List α} {n : Nat} (h : vs.length = n + 1) : ∃ v r, vs = v :: r ∧ r.length = n := by
  cases vs with
  | nil => simp at h
  | cons v r => exact ⟨v, r, rfl, by simpa using h⟩
set_option maxHeartbeats 6400000 in
/-- What is read of an event's words is the event. -/
theorem put_back {e : Ev} {items : Ws} {data : List UInt8} {vs : List Value} (hF : e.inForm = true) (hX : ersL (er1 e.cells items) (kindT e.k) = 0) (hi : items.length = e.rik) (hd : data.length = e.dik) (hv : vs.length = ((kindT e.k).flatMap sub).length) :
    ∃ rv dv, putL (Ev.zero e.k).cells ((kindT e.k).flatMap sub) (((kindT e.k).flatMap sub).map (ct1 e.cells items data)) vs = e.cells2 rv dv ∧
      ((ownL (((kindT e.k).flatMap sub).map (ct1 e.cells items data)) vs = [ownC 9 rv (txW items)] ∧ dv = .slice none 0 0 ∧ data = []) ∨ (ownL (((kindT e.k).flatMap sub).map (ct1 e.cells items data)) vs = [ownC 5 dv (cellsB data)] ∧ rv = .slice none 0 0 ∧ items = []) ∨ (ownL (((kindT e.k).flatMap sub).map (ct1 e.cells items data)) vs = [] ∧ rv = .slice none 0 0 ∧ dv = .slice none 0 0 ∧ items = [] ∧ data = [])) := by
  have hk := inForm_k hF
  have hO := (left_empty hF).2
  have hE := ersL_zero hX
  clear hX hF
  obtain hk | hk | hk | hk | hk | hk | hk | hk | hk | hk | hk : e.k = 1 ∨ e.k = 2 ∨ e.k = 3 ∨ e.k = 4 ∨ e.k = 5 ∨ e.k = 6 ∨ e.k = 7 ∨ e.k = 8 ∨ e.k = 9 ∨ e.k = 10 ∨ e.k = 11 := by omega
  · have hK : kindT e.k = [.int 1, .cod 5] := by rw [hk]; rfl
    rw [hK] at hE hv ⊢
    simp only [List.flatMap_cons, List.flatMap_nil, sub, List.cons_append, List.nil_append, List.append_nil, List.length_cons, List.length_nil] at hv ⊢
    obtain ⟨v0, vs0, rfl, hv0⟩ := vs_cons hv
    obtain ⟨v1, vs1, rfl, hv1⟩ := vs_cons hv0
    have hnil : vs1 = [] := len_nil hv1
    subst hnil
    simp [Ev.left, hk, Ev.empty, Ev.z_a, Ev.z_nb, Ev.z_nm, Ev.z_wh, Ev.z_cd, Ev.z_fr, Ev.z_op, Ev.z_en, Ev.z_lk, Ev.z_rc, Ev.z_rn, Ev.z_rk, Ev.z_sn, Ev.z_sa, Ev.z_dk] at hO
    refine ⟨.slice none 0 0, .slice none 0 0, ?_, Or.inr (Or.inr ⟨by simp [ownL, ownOf, ct1], rfl, rfl, len_nil (by rw [hi]; simp [hO]), len_nil (by rw [hd]; simp [hO])⟩)⟩
    simp only [putL, putC, ct1, Ev.cells2, Ev.cells, Ev.zero, valI, List.map_cons, List.map_nil, List.set_cons_succ, List.set_cons_zero, List.getElem?_cons_succ, List.getElem?_cons]
    simp [hO, hk]
  · have hK : kindT e.k = [.int 1, .int 2, .op 7] := by rw [hk]; rfl
    rw [hK] at hE hv ⊢
    simp only [List.flatMap_cons, List.flatMap_nil, sub, List.cons_append, List.nil_append, List.append_nil, List.length_cons, List.length_nil] at hv ⊢
    obtain ⟨v0, vs0, rfl, hv0⟩ := vs_cons hv
    obtain ⟨v1, vs1, rfl, hv1⟩ := vs_cons hv0
    obtain ⟨v2, vs2, rfl, hv2⟩ := vs_cons hv1
    have hnil : vs2 = [] := len_nil hv2
    subst hnil
    simp [Ev.left, hk, Ev.empty, Ev.z_a, Ev.z_nb, Ev.z_nm, Ev.z_wh, Ev.z_cd, Ev.z_fr, Ev.z_op, Ev.z_en, Ev.z_lk, Ev.z_rc, Ev.z_rn, Ev.z_rk, Ev.z_sn, Ev.z_sa, Ev.z_dk] at hO
    have hN7 := chkO_nn (hE (.op 7) (by simp))
    simp only [valI, strV, Ev.cells, List.getElem?_cons_succ, List.getElem?_cons_zero] at hN7
    refine ⟨.slice none 0 0, .slice none 0 0, ?_, Or.inr (Or.inr ⟨by simp [ownL, ownOf, ct1], rfl, rfl, len_nil (by rw [hi]; simp [hO]), len_nil (by rw [hd]; simp [hO])⟩)⟩
    simp only [putL, putC, ct1, setOp, Ev.cells2, Ev.cells, Ev.zero, valI, strV, List.map_cons, List.map_nil, List.set_cons_succ, List.set_cons_zero, List.getElem?_cons_succ, List.getElem?_cons]
    simp [hO, hk]
    omega
  · have hK : kindT e.k = [.int 1, .int 2, .int 4, .op 7] := by rw [hk]; rfl
    rw [hK] at hE hv ⊢
    simp only [List.flatMap_cons, List.flatMap_nil, sub, List.cons_append, List.nil_append, List.append_nil, List.length_cons, List.length_nil] at hv ⊢
    obtain ⟨v0, vs0, rfl, hv0⟩ := vs_cons hv
    obtain ⟨v1, vs1, rfl, hv1⟩ := vs_cons hv0
    obtain ⟨v2, vs2, rfl, hv2⟩ := vs_cons hv1
    obtain ⟨v3, vs3, rfl, hv3⟩ := vs_cons hv2
    have hnil : vs3 = [] := len_nil hv3
    subst hnil
    simp [Ev.left, hk, Ev.empty, Ev.z_a, Ev.z_nb, Ev.z_nm, Ev.z_wh, Ev.z_cd, Ev.z_fr, Ev.z_op, Ev.z_en, Ev.z_lk, Ev.z_rc, Ev.z_rn, Ev.z_rk, Ev.z_sn, Ev.z_sa, Ev.z_dk] at hO
    have hN7 := chkO_nn (hE (.op 7) (by simp))
    simp only [valI, strV, Ev.cells, List.getElem?_cons_succ, List.getElem?_cons_zero] at hN7
    refine ⟨.slice none 0 0, .slice none 0 0, ?_, Or.inr (Or.inr ⟨by simp [ownL, ownOf, ct1], rfl, rfl, len_nil (by rw [hi]; simp [hO]), len_nil (by rw [hd]; simp [hO])⟩)⟩
    simp only [putL, putC, ct1, setOp, Ev.cells2, Ev.cells, Ev.zero, valI, strV, List.map_cons, List.map_nil, List.set_cons_succ, List.set_cons_zero, List.getElem?_cons_succ, List.getElem?_cons]
    simp [hO, hk]
    omega
  · have hK : kindT e.k = [.int 1, .int 2, .int 3, .res 19] := by rw [hk]; rfl
    rw [hK] at hE hv ⊢
    simp only [List.flatMap_cons, List.flatMap_nil, sub, List.cons_append, List.nil_append, List.append_nil, List.length_cons, List.length_nil] at hv ⊢
    obtain ⟨v0, vs0, rfl, hv0⟩ := vs_cons hv
    obtain ⟨v1, vs1, rfl, hv1⟩ := vs_cons hv0
    obtain ⟨v2, vs2, rfl, hv2⟩ := vs_cons hv1
    obtain ⟨v3, vs3, rfl, hv3⟩ := vs_cons hv2
    have hnil : vs3 = [] := len_nil hv3
    subst hnil
    simp [Ev.left, hk, Ev.empty, Ev.z_a, Ev.z_nb, Ev.z_nm, Ev.z_wh, Ev.z_cd, Ev.z_fr, Ev.z_op, Ev.z_en, Ev.z_lk, Ev.z_rc, Ev.z_rn, Ev.z_rk, Ev.z_sn, Ev.z_sa, Ev.z_dk] at hO
    refine ⟨v3, .slice none 0 0, ?_, Or.inl ⟨by simp [ownL, ownOf, ct1], rfl, len_nil (by rw [hd]; simp [hO])⟩⟩
    simp only [putL, putC, ct1, setRes, Ev.cells2, Ev.cells, Ev.zero, valI, List.map_cons, List.map_nil, List.set_cons_succ, List.set_cons_zero, List.getElem?_cons_succ, List.getElem?_cons]
    simp [hO, hk]
  · have hK : kindT e.k = [.int 1, .int 2, .int 3, .int 4, .res 19] := by rw [hk]; rfl
    rw [hK] at hE hv ⊢
    simp only [List.flatMap_cons, List.flatMap_nil, sub, List.cons_append, List.nil_append, List.append_nil, List.length_cons, List.length_nil] at hv ⊢
    obtain ⟨v0, vs0, rfl, hv0⟩ := vs_cons hv
    obtain ⟨v1, vs1, rfl, hv1⟩ := vs_cons hv0
    obtain ⟨v2, vs2, rfl, hv2⟩ := vs_cons hv1
    obtain ⟨v3, vs3, rfl, hv3⟩ := vs_cons hv2
    obtain ⟨v4, vs4, rfl, hv4⟩ := vs_cons hv3
    have hnil : vs4 = [] := len_nil hv4
    subst hnil
    simp [Ev.left, hk, Ev.empty, Ev.z_a, Ev.z_nb, Ev.z_nm, Ev.z_wh, Ev.z_cd, Ev.z_fr, Ev.z_op, Ev.z_en, Ev.z_lk, Ev.z_rc, Ev.z_rn, Ev.z_rk, Ev.z_sn, Ev.z_sa, Ev.z_dk] at hO
    refine ⟨v4, .slice none 0 0, ?_, Or.inl ⟨by simp [ownL, ownOf, ct1], rfl, len_nil (by rw [hd]; simp [hO])⟩⟩
    simp only [putL, putC, ct1, setRes, Ev.cells2, Ev.cells, Ev.zero, valI, List.map_cons, List.map_nil, List.set_cons_succ, List.set_cons_zero, List.getElem?_cons_succ, List.getElem?_cons]
    simp [hO, hk]
  · have hK : kindT e.k = [.int 1, .int 3, .fre 6, .int 12, .int 13, .op 14, .res 19] := by rw [hk]; rfl
    rw [hK] at hE hv ⊢
    simp only [List.flatMap_cons, List.flatMap_nil, sub, List.cons_append, List.nil_append, List.append_nil, List.length_cons, List.length_nil] at hv ⊢
    obtain ⟨v0, vs0, rfl, hv0⟩ := vs_cons hv
    obtain ⟨v1, vs1, rfl, hv1⟩ := vs_cons hv0
    obtain ⟨v2, vs2, rfl, hv2⟩ := vs_cons hv1
    obtain ⟨v3, vs3, rfl, hv3⟩ := vs_cons hv2
    obtain ⟨v4, vs4, rfl, hv4⟩ := vs_cons hv3
    obtain ⟨v5, vs5, rfl, hv5⟩ := vs_cons hv4
    obtain ⟨v6, vs6, rfl, hv6⟩ := vs_cons hv5
    have hnil : vs6 = [] := len_nil hv6
    subst hnil
    simp [Ev.left, hk, Ev.empty, Ev.z_a, Ev.z_nb, Ev.z_nm, Ev.z_wh, Ev.z_cd, Ev.z_fr, Ev.z_op, Ev.z_en, Ev.z_lk, Ev.z_rc, Ev.z_rn, Ev.z_rk, Ev.z_sn, Ev.z_sa, Ev.z_dk] at hO
    have hN14 := chkO_nn (hE (.op 14) (by simp))
    simp only [valI, strV, Ev.cells, List.getElem?_cons_succ, List.getElem?_cons_zero] at hN14
    refine ⟨v6, .slice none 0 0, ?_, Or.inl ⟨by simp [ownL, ownOf, ct1], rfl, len_nil (by rw [hd]; simp [hO])⟩⟩
    simp only [putL, putC, ct1, setOp, setRes, Ev.cells2, Ev.cells, Ev.zero, valI, strV, boolV, List.map_cons, List.map_nil, List.set_cons_succ, List.set_cons_zero, List.getElem?_cons_succ, List.getElem?_cons]
    simp [hO, hk]
    omega
  · have hK : kindT e.k = [.int 1, .look 22] := by rw [hk]; rfl
    rw [hK] at hE hv ⊢
    simp only [List.flatMap_cons, List.flatMap_nil, sub, lookL, List.cons_append, List.nil_append, List.append_nil, List.length_cons, List.length_nil] at hv ⊢
    obtain ⟨v0, vs0, rfl, hv0⟩ := vs_cons hv
    obtain ⟨v1, vs1, rfl, hv1⟩ := vs_cons hv0
    obtain ⟨v2, vs2, rfl, hv2⟩ := vs_cons hv1
    obtain ⟨v3, vs3, rfl, hv3⟩ := vs_cons hv2
    obtain ⟨v4, vs4, rfl, hv4⟩ := vs_cons hv3
    obtain ⟨v5, vs5, rfl, hv5⟩ := vs_cons hv4
    obtain ⟨v6, vs6, rfl, hv6⟩ := vs_cons hv5
    obtain ⟨v7, vs7, rfl, hv7⟩ := vs_cons hv6
    obtain ⟨v8, vs8, rfl, hv8⟩ := vs_cons hv7
    have hnil : vs8 = [] := len_nil hv8
    subst hnil
    simp [Ev.left, hk, Ev.empty, Ev.z_a, Ev.z_nb, Ev.z_nm, Ev.z_wh, Ev.z_cd, Ev.z_fr, Ev.z_op, Ev.z_en, Ev.z_lk, Ev.z_rc, Ev.z_rn, Ev.z_rk, Ev.z_sn, Ev.z_sa, Ev.z_dk] at hO
    refine ⟨.slice none 0 0, .slice none 0 0, ?_, Or.inr (Or.inr ⟨by simp [ownL, ownOf, ct1], rfl, rfl, len_nil (by rw [hi]; simp [hO]), len_nil (by rw [hd]; simp [hO])⟩)⟩
    simp only [putL, putC, ct1, Ev.cells2, Ev.cells, Ev.zero, valI, List.map_cons, List.map_nil, List.set_cons_succ, List.set_cons_zero, List.getElem?_cons_succ, List.getElem?_cons]
    simp [hO, hk]
  · have hK : kindT e.k = [.int 1] := by rw [hk]; rfl
    rw [hK] at hE hv ⊢
    simp only [List.flatMap_cons, List.flatMap_nil, sub, List.append_nil, List.length_cons, List.length_nil] at hv ⊢
    obtain ⟨v0, vs0, rfl, hv0⟩ := vs_cons hv
    have hnil : vs0 = [] := len_nil hv0
    subst hnil
    simp [Ev.left, hk, Ev.empty, Ev.z_a, Ev.z_nb, Ev.z_nm, Ev.z_wh, Ev.z_cd, Ev.z_fr, Ev.z_op, Ev.z_en, Ev.z_lk, Ev.z_rc, Ev.z_rn, Ev.z_rk, Ev.z_sn, Ev.z_sa, Ev.z_dk] at hO
    refine ⟨.slice none 0 0, .slice none 0 0, ?_, Or.inr (Or.inr ⟨by simp [ownL, ownOf, ct1], rfl, rfl, len_nil (by rw [hi]; simp [hO]), len_nil (by rw [hd]; simp [hO])⟩)⟩
    simp only [putL, putC, ct1, Ev.cells2, Ev.cells, Ev.zero, valI, List.map_cons, List.map_nil, List.set_cons_succ, List.set_cons_zero, List.getElem?_cons_succ, List.getElem?_cons]
    simp [hO, hk]
  · have hK : kindT e.k = [.int 1] := by rw [hk]; rfl
    rw [hK] at hE hv ⊢
    simp only [List.flatMap_cons, List.flatMap_nil, sub, List.append_nil, List.length_cons, List.length_nil] at hv ⊢
    obtain ⟨v0, vs0, rfl, hv0⟩ := vs_cons hv
    have hnil : vs0 = [] := len_nil hv0
    subst hnil
    simp [Ev.left, hk, Ev.empty, Ev.z_a, Ev.z_nb, Ev.z_nm, Ev.z_wh, Ev.z_cd, Ev.z_fr, Ev.z_op, Ev.z_en, Ev.z_lk, Ev.z_rc, Ev.z_rn, Ev.z_rk, Ev.z_sn, Ev.z_sa, Ev.z_dk] at hO
    refine ⟨.slice none 0 0, .slice none 0 0, ?_, Or.inr (Or.inr ⟨by simp [ownL, ownOf, ct1], rfl, rfl, len_nil (by rw [hi]; simp [hO]), len_nil (by rw [hd]; simp [hO])⟩)⟩
    simp only [putL, putC, ct1, Ev.cells2, Ev.cells, Ev.zero, valI, List.map_cons, List.map_nil, List.set_cons_succ, List.set_cons_zero, List.getElem?_cons_succ, List.getElem?_cons]
    simp [hO, hk]
  · have hK : kindT e.k = [.int 1, .look 22] := by rw [hk]; rfl
    rw [hK] at hE hv ⊢
    simp only [List.flatMap_cons, List.flatMap_nil, sub, lookL, List.cons_append, List.nil_append, List.append_nil, List.length_cons, List.length_nil] at hv ⊢
    obtain ⟨v0, vs0, rfl, hv0⟩ := vs_cons hv
    obtain ⟨v1, vs1, rfl, hv1⟩ := vs_cons hv0
    obtain ⟨v2, vs2, rfl, hv2⟩ := vs_cons hv1
    obtain ⟨v3, vs3, rfl, hv3⟩ := vs_cons hv2
    obtain ⟨v4, vs4, rfl, hv4⟩ := vs_cons hv3
    obtain ⟨v5, vs5, rfl, hv5⟩ := vs_cons hv4
    obtain ⟨v6, vs6, rfl, hv6⟩ := vs_cons hv5
    obtain ⟨v7, vs7, rfl, hv7⟩ := vs_cons hv6
    obtain ⟨v8, vs8, rfl, hv8⟩ := vs_cons hv7
    have hnil : vs8 = [] := len_nil hv8
    subst hnil
    simp [Ev.left, hk, Ev.empty, Ev.z_a, Ev.z_nb, Ev.z_nm, Ev.z_wh, Ev.z_cd, Ev.z_fr, Ev.z_op, Ev.z_en, Ev.z_lk, Ev.z_rc, Ev.z_rn, Ev.z_rk, Ev.z_sn, Ev.z_sa, Ev.z_dk] at hO
    refine ⟨.slice none 0 0, .slice none 0 0, ?_, Or.inr (Or.inr ⟨by simp [ownL, ownOf, ct1], rfl, rfl, len_nil (by rw [hi]; simp [hO]), len_nil (by rw [hd]; simp [hO])⟩)⟩
    simp only [putL, putC, ct1, Ev.cells2, Ev.cells, Ev.zero, valI, List.map_cons, List.map_nil, List.set_cons_succ, List.set_cons_zero, List.getElem?_cons_succ, List.getElem?_cons]
    simp [hO, hk]
  · have hK : kindT e.k = [.int 1, .sht 30] := by rw [hk]; rfl
    rw [hK] at hE hv ⊢
    simp only [List.flatMap_cons, List.flatMap_nil, sub, shtL, List.cons_append, List.nil_append, List.append_nil, List.length_cons, List.length_nil] at hv ⊢
    obtain ⟨v0, vs0, rfl, hv0⟩ := vs_cons hv
    obtain ⟨v1, vs1, rfl, hv1⟩ := vs_cons hv0
    obtain ⟨v2, vs2, rfl, hv2⟩ := vs_cons hv1
    obtain ⟨v3, vs3, rfl, hv3⟩ := vs_cons hv2
    have hnil : vs3 = [] := len_nil hv3
    subst hnil
    simp [Ev.left, hk, Ev.empty, Ev.z_a, Ev.z_nb, Ev.z_nm, Ev.z_wh, Ev.z_cd, Ev.z_fr, Ev.z_op, Ev.z_en, Ev.z_lk, Ev.z_rc, Ev.z_rn, Ev.z_rk, Ev.z_sn, Ev.z_sa, Ev.z_dk] at hO
    refine ⟨.slice none 0 0, v3, ?_, Or.inr (Or.inl ⟨by simp [ownL, ownOf, ct1], rfl, len_nil (by rw [hi]; simp [hO])⟩)⟩
    simp only [putL, putC, ct1, Ev.cells2, Ev.cells, Ev.zero, valI, List.map_cons, List.map_nil, List.set_cons_succ, List.set_cons_zero, List.getElem?_cons_succ, List.getElem?_cons]
    simp [hO, hk]
end Go.Proofs.YtfeppannfcbakaaGreatDoor
