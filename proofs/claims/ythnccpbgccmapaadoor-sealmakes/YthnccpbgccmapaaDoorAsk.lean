import Derived.Test.YthnccpbgccmapaaDoorRefOpen
import Derived.Test.YthnccpbgccmapaaDoorSpoil3
namespace Go.Proofs.YthnccpbgccmapaaDoor
open Go.RowKit
set_option linter.unusedVariables false

/-- What one of the two calls answers. -/
def ans (o : Bool) (l : List UInt8) : List UInt8 × Nat := if o then openP l else sealA l

theorem ans_len (o : Bool) (l : List UInt8) : (ans o l).1.length ≤ 65549 := by
  cases o
  · show (sealA l).1.length ≤ _
    unfold sealA
    split
    · simp
    · rw [sealP_length]; omega
  · show (openP l).1.length ≤ _
    unfold openP
    split
    · simp
    · split
      · simp
      · split
        · simp
        · split
          · simp
          · have := headP_le l
            simp
            omega

set_option maxHeartbeats 1600000 in
set_option maxRecDepth 1000000 in
theorem ask_any {w : World} {s : Value} {l : List UInt8} (o : Bool) (hT : Tab w) (h : Reads w s l) (hlen : l.length ≤ 140737488351232) :
    Calls Tryd.prog 23 #[.bool o, s] w fun e w' => ∃ v, e = .returned (.tuple #[v, .int .i64 ((ans o l).2 : Int)]) ∧ w'.ownsRow w.heap.size 5 1 v (ans o l).1.length (cellsB (ans o l).1) ∧ Below w.heap.size w w' := by
  have HT := hid hT
  have HH := hid h
  obtain ⟨ao, c, hf⟩ := h.form
  subst hf
  clear hT h
  cases o
  · go_enter Tryd.func23, Tryd.ntmps23
    go_wp2_with fail
    refine (Seal_any HT.out HH.out hlen).mono ?_
    rintro e w1 ⟨v, rfl, ho, hb⟩
    have O := hid (show w1.ownsRow w.heap.size 5 1 v (ans false l).1.length (cellsB (ans false l).1) ∧ Below w.heap.size w w1 from ⟨ho, hb⟩)
    obtain ⟨x, y, hv⟩ := owns_form ho
    subst hv
    clear ho hb
    go_wp2
    go_ret2
    exact ⟨_, rfl, O.out⟩
  · go_enter Tryd.func23, Tryd.ntmps23
    go_wp2_with fail
    refine (Open_any HT.out HH.out hlen).mono ?_
    rintro e w1 ⟨v, rfl, ho, hb⟩
    have O := hid (show w1.ownsRow w.heap.size 5 1 v (ans true l).1.length (cellsB (ans true l).1) ∧ Below w.heap.size w w1 from ⟨ho, hb⟩)
    obtain ⟨x, y, hv⟩ := owns_form ho
    subst hv
    clear ho hb
    go_wp2
    go_ret2
    exact ⟨_, rfl, O.out⟩

set_option maxHeartbeats 1600000 in
set_option maxRecDepth 1000000 in
theorem doc_any {w : World} {s : Value} {l : List UInt8} (o : Bool) (h : Reads w s l) (hlen : l.length ≤ 140737488351232) :
    Calls Tryd.prog 22 #[.bool o, s] w fun e w' => ∃ v, e = .returned (.tuple #[v, .int .i64 ((ans o l).2 : Int)]) ∧ w'.ownsRow w.heap.size 5 1 v (ans o l).1.length (cellsB (ans o l).1) ∧ Below w.heap.size w w' := by
  have HH := hid h
  obtain ⟨ao, c, hf⟩ := h.form
  subst hf
  clear h
  cases o
  · go_enter Tryd.func22, Tryd.ntmps22
    go_wp2_with fail
    refine (refSeal_any HH.out hlen).mono ?_
    rintro e w1 ⟨v, rfl, ho, hb⟩
    have O := hid (show w1.ownsRow w.heap.size 5 1 v (ans false l).1.length (cellsB (ans false l).1) ∧ Below w.heap.size w w1 from ⟨ho, hb⟩)
    obtain ⟨x, y, hv⟩ := owns_form ho
    subst hv
    clear ho hb
    go_wp2
    go_ret2
    exact ⟨_, rfl, O.out⟩
  · go_enter Tryd.func22, Tryd.ntmps22
    go_wp2_with fail
    refine (refOpen_any HH.out hlen).mono ?_
    rintro e w1 ⟨v, rfl, ho, hb⟩
    have O := hid (show w1.ownsRow w.heap.size 5 1 v (ans true l).1.length (cellsB (ans true l).1) ∧ Below w.heap.size w w1 from ⟨ho, hb⟩)
    obtain ⟨x, y, hv⟩ := owns_form ho
    subst hv
    clear ho hb
    go_wp2
    go_ret2
    exact ⟨_, rfl, O.out⟩

theorem All.drewN {cs : List Comp} {w : World} (h : All cs w) (q : Nat) : All cs (w.drewN q) := h.kept (F := []) ⟨rfl, rfl, rfl, Nat.le_refl _, fun _ _ _ => rfl⟩ (fun d _ k hk => by cases hk)

theorem All.inB {w0 w : World} {cs : List Comp} (h : All cs w) (hm : inC w0 ∈ cs) : Below w0.heap.size w0 w := (h.mem hm).2.1
theorem All.rowR {v : Value} {l : List UInt8} {w : World} {cs : List Comp} (h : All cs w) (hm : rowC v l ∈ cs) : w.ownsRow 0 5 1 v l.length (cellsB l) := (h.mem hm).2.1

/-- The list that is lent, while it is turned. -/
def flipK (l : List UInt8) (k : Nat) : List UInt8 := (l.take k).map (· ^^^ 255) ++ l.drop k
theorem flipK_length (l : List UInt8) (k : Nat) : (flipK l k).length = l.length := by simp [flipK]; omega
theorem flipK_zero (l : List UInt8) : flipK l 0 = l := by simp [flipK]
theorem flipK_getD (l : List UInt8) (k : Nat) (hk : k < l.length) : (flipK l k).getD k 0 = l.getD k 0 := by
  have : ((l.take k).map (· ^^^ 255)).length = k := by simp; omega
  unfold flipK
  rw [List.getD_eq_getElem?_getD, List.getElem?_append_right (by omega), this, Nat.sub_self, List.getElem?_drop, Nat.add_zero, ← List.getD_eq_getElem?_getD]
theorem flipK_succ (l : List UInt8) (k : Nat) (hk : k < l.length) : (flipK l k).set k (l.getD k 0 ^^^ 255) = flipK l (k + 1) := by
  have e1 : ((l.take k).map (· ^^^ 255)).length = k := by simp; omega
  unfold flipK
  have e : l.getD k 0 = l[k] := by simp [List.getD, List.getElem?_eq_getElem hk]
  rw [List.set_append_right _ _ (by omega), e1, Nat.sub_self, List.drop_eq_getElem_cons hk, List.set_cons_zero, List.take_succ_eq_append_getElem hk, List.map_append, List.append_assoc, e]
  rfl

/-- .. and while it is turned back. -/
def backK (l : List UInt8) (k : Nat) : List UInt8 := l.take k ++ (l.drop k).map (· ^^^ 255)
theorem backK_length (l : List UInt8) (k : Nat) : (backK l k).length = l.length := by simp [backK]; omega
theorem backK_succ (l : List UInt8) (k : Nat) (hk : k < l.length) : (backK l k).set k (l.getD k 0) = backK l (k + 1) := by
  have e1 : (l.take k).length = k := by simp; omega
  unfold backK
  have e : l.getD k 0 = l[k] := by simp [List.getD, List.getElem?_eq_getElem hk]
  rw [List.set_append_right _ _ (by omega), e1, Nat.sub_self, List.drop_eq_getElem_cons hk, List.map_cons, List.set_cons_zero, List.take_succ_eq_append_getElem hk, List.append_assoc, e]
  rfl
theorem back_flip (l : List UInt8) : flipK l l.length = backK l 0 := by simp [flipK, backK]
theorem backK_all (l : List UInt8) : backK l l.length = l := by simp [backK]

theorem behind_set (X : List UInt8) (k : Nat) (hk : k < X.length) (x : UInt8) : (behind X 8).set k x = behind (X.set k x) 8 := by
  unfold behind
  rw [List.set_append_left _ _ hk]
end Go.Proofs.YthnccpbgccmapaaDoor
