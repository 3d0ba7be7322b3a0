import Derived.Test.YtblojlaifnmimaaGreatDoorWb
import Derived.Test.YtblojlaifnmimaaGreatDoorJ12
namespace Go.Proofs.YtblojlaifnmimaaGreatDoor
open Go.RowKit
set_option linter.unusedVariables false

/-- The lines that are not passed over. -/
def fln (t : List UInt8) : Ws := (linesW [] t).filter fun l => !passW l
theorem lines_mid (b : List UInt8) : ∀ (a acc : List UInt8), linesW acc (a ++ 10 :: b) = linesW acc a ++ linesW [] b
  | [], acc => by simp [linesW]
  | x :: a, acc => by
    rw [List.cons_append, linesW, linesW]
    split
    · rw [lines_mid b a []]; rfl
    · exact lines_mid b a _
theorem fln_mid (a b : List UInt8) : fln (a ++ 10 :: b) = fln a ++ fln b := by
  unfold fln
  rw [lines_mid, List.filter_append]
theorem lines_one {a : List UInt8} (h : ∀ b ∈ a, b ≠ 10) : linesW [] a = [a] := by
  have key : ∀ (t acc : List UInt8), (∀ b ∈ t, b ≠ 10) → linesW acc t = [acc ++ t] := by
    intro t
    induction t with
    | nil => intro acc _; simp [linesW]
    | cons x t ih =>
      intro acc hx
      rw [linesW, if_neg (hx x (by simp)), ih _ (fun b hb => hx b (by simp [hb]))]
      simp
  simpa using key a [] h
theorem fln_pass {a : List UInt8} (h : ∀ b ∈ a, b ≠ 10) (hp : passW a = true) : fln a = [] := by
  unfold fln
  rw [lines_one h]
  simp [hp]
theorem go_filter {c : List Int} {ss : List Sp} : ∀ (ls : Ws) (i j : Nat) (s : Ps), goL i s ls = .ok c ss ↔ goL j s (ls.filter fun l => !passW l) = .ok c ss
  | [], i, j, s => by
    simp only [List.filter_nil, goL]
    cases s.c <;> simp
  | x :: r, i, j, s => by
    rw [List.filter_cons]
    cases hp : passW x
    · simp only [Bool.not_false, if_true, goL, hp, Bool.false_eq_true, if_false]
      cases lineL s x with
      | bad e => simp
      | go s' => exact go_filter r _ _ s'
    · simp only [Bool.not_true, Bool.false_eq_true, if_false, goL, hp, if_true]
      exact go_filter r _ _ s
theorem parse_fl {t u : List UInt8} {c : List Int} {ss : List Sp} (h : parseW t = .ok c ss) (he : fln u = fln t) (hu : u.length ≤ 65536) : parseW u = .ok c ss := by
  unfold parseW at h ⊢
  split at h
  · simp at h
  · rw [if_neg (by omega)]
    have h1 := (go_filter _ 0 0 _).1 h
    refine (go_filter _ 0 0 _).2 ?_
    have he : (linesW [] u).filter (fun l => !passW l) = (linesW [] t).filter (fun l => !passW l) := he
    rw [he]
    exact h1
theorem parse_short {t : List UInt8} {c : List Int} {ss : List Sp} (h : parseW t = .ok c ss) : t.length ≤ 65536 := by
  unfold parseW at h
  split at h
  · simp at h
  · omega
/-- A remark. -/
def RemOk (r : List UInt8) : Prop := ∃ t, r = 35 :: t ∧ ∀ b ∈ t, b ≠ 10
theorem RemOk.nl {r : List UInt8} (h : RemOk r) : ∀ b ∈ r, b ≠ 10 := by
  obtain ⟨t, rfl, ht⟩ := h
  intro b hb
  rcases List.mem_cons.1 hb with rfl | hb
  · decide
  · exact ht b hb
theorem RemOk.fl1 {r : List UInt8} (h : RemOk r) : fln r = [] := by
  refine fln_pass h.nl ?_
  obtain ⟨t, rfl, _⟩ := h
  rfl
theorem RemOk.fl2 {r : List UInt8} (h : RemOk r) : Go.Proofs.YtblojlaifnmimaaGreatDoor.fln (32 :: 9 :: r) = [] := by
  refine fln_pass (fun b hb => ?_) ?_
  · rcases List.mem_cons.1 hb with rfl | hb
    · decide
    · rcases List.mem_cons.1 hb with rfl | hb
      · decide
      · exact h.nl b hb
  · obtain ⟨t, rfl, _⟩ := h
    rfl
theorem RemOk.snoc {r : List UInt8} {b : UInt8} (h : RemOk r) (hb : b ≠ 10) : RemOk (r ++ [b]) := by
  obtain ⟨t, rfl, ht⟩ := h
  refine ⟨t ++ [b], rfl, fun x hx => ?_⟩
  rcases List.mem_append.1 hx with hx | hx
  · exact ht x hx
  · simp only [List.mem_cons, List.not_mem_nil, or_false] at hx
    subst hx
    exact hb
/-- A text that says what another begins. -/
def Ex (o p : List UInt8) : Prop := ∀ r, fln (o ++ r) = fln (p ++ r)
theorem Ex.line {o l : List UInt8} {f i : Nat} (h : Ex o (l.take f)) (hf : f ≤ i + 1) : Ex (o ++ cutW l f (i + 1)) (l.take (i + 1)) := by
  intro r
  rw [List.append_assoc, h]
  congr 1
  rw [← List.append_assoc]
  congr 1
  unfold cutW
  rw [show l.take (i + 1) = l.take (f + (i + 1 - f)) by congr 1; omega, List.take_add]
theorem take_nl {l : List UInt8} {i : Nat} (hi : i < l.length) (h10 : l.getD i 0 = 10) : l.take (i + 1) = l.take i ++ [10] := by
  rw [List.take_add_one, List.getElem?_eq_getElem hi]
  rw [List.getD_eq_getElem?_getD, List.getElem?_eq_getElem hi] at h10
  simp only [Option.getD_some] at h10
  rw [h10]
  rfl
theorem Ex.rem {o l R : List UInt8} {i : Nat} (h : Ex o (l.take (i + 1))) (hi : i < l.length) (h10 : l.getD i 0 = 10) (hR : RemOk R) : Ex (o ++ [32, 9] ++ R ++ [10, 32, 10]) (l.take (i + 1)) := by
  intro r
  have e1 : o ++ [32, 9] ++ R ++ [10, 32, 10] ++ r = o ++ ((32 :: 9 :: R) ++ 10 :: ([32] ++ 10 :: r)) := by simp
  rw [e1, h, take_nl hi h10]
  have e2 : ∀ x : List UInt8, l.take i ++ [10] ++ x = l.take i ++ 10 :: x := fun x => by simp
  rw [e2, e2, fln_mid, fln_mid, fln_mid, fln_mid, hR.fl2, show fln [32] = [] from rfl]
  rfl
theorem Ex.done {o l R : List UInt8} {f : Nat} (h : Ex o (l.take f)) (hR : RemOk R) : fln (R ++ [10] ++ o ++ l.drop f ++ [10] ++ R) = fln l := by
  have e1 : R ++ [10] ++ o ++ l.drop f ++ [10] ++ R = R ++ 10 :: ((o ++ l.drop f) ++ 10 :: R) := by simp
  rw [e1, fln_mid, fln_mid, hR.fl1, h, List.take_append_drop]
  simp
theorem cat_ex {S T : ByteArray} {a b : List UInt8} (hS : S = ⟨a.toArray⟩) (hT : T = ⟨b.toArray⟩) (h : a.length + b.length ≤ 9223372036854775807) : ∃ N, S ++ T = N ∧ ¬ 9223372036854775807 < S.size + T.size ∧ N = ⟨(a ++ b).toArray⟩ := by
  subst hS
  subst hT
  exact ⟨_, rfl, by rw [ba_size, ba_size]; omega, ba_app a b⟩
theorem cut_end {l : List UInt8} {i : Nat} (hi : i ≤ l.length) (W : World) : (Instr.slice 9 (.string ⟨l.toArray⟩) (some (.int .i64 (i : Int))) none none).run Tryz.prog W = .ok (.string ⟨(l.drop i).toArray⟩) W := by
  have hs : (⟨l.toArray⟩ : ByteArray).size = l.length := by simp [ByteArray.size]
  rw [run_slice_string_l W 9 _ Tryz.underlying9 .i64 (i : Int) (by omega) (by rw [hs]; omega)]
  congr 2
  apply ByteArray.ext
  simp only [ByteArray.data_extract, Int.toNat_natCast]
  apply Array.ext'
  rw [hs]
  simp only [List.extract_toArray, List.extract_eq_take_drop]
  exact List.take_of_length_le (by simp)
end Go.Proofs.YtblojlaifnmimaaGreatDoor
