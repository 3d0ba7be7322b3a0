import Derived.Test.YthoppemjfdnibaaGreatDoorPutO
namespace Go.Proofs.YthoppemjfdnibaaGreatDoor
open Go.RowKit
set_option linter.unusedVariables false

theorem textsB_len (l : List ByteArray) : (textsB l).length ≤ bulkT l := by
  induction l with
  | nil => simp [textsB, bulkT]
  | cons t l ih =>
    have he := enc_len 9 t.size
    have hs := str_len t
    have e1 : (textsB (t :: l)).length = (enc 9 t.size).length + t.data.toList.length + (textsB l).length := by simp [textsB]; omega
    have e2 : bulkT (t :: l) = t.size + 10 + bulkT l := by simp [bulkT]
    rw [e1, e2]
    omega
/-- The document's writer, as a part. -/
def xwC (b : Nat) (v : Value) (st : Option (List UInt8)) : Comp := ⟨fun w => Xst w b v st, b :: v.ownBlock.toList⟩
theorem xst_kept {w w' : World} {b : Nat} {v : Value} {st : Option (List UInt8)} (h : Xst w b v st) (hb : w'.heap[b]? = w.heap[b]?) (hr : ∀ k, v.ownBlock = some k → w'.heap[k]? = w.heap[k]?) : Xst w' b v st := by
  have key : ∀ {bs : List UInt8} {bad : Bool}, XWr w b v bs bad → XWr w' b v bs bad := by
    intro bs bad h
    refine ⟨by rw [hb]; exact h.box, h.row.1, ?_⟩
    rcases h.row.2 with hn | ⟨g, cap, cur, rfl, hg, hgg, rest⟩
    · exact Or.inl hn
    · exact Or.inr ⟨g, cap, cur, rfl, hg, by rw [hr g rfl]; exact hgg, rest⟩
  cases st with
  | some bs => exact key h
  | none => obtain ⟨bs, h⟩ := h; exact ⟨bs, key h⟩
theorem xst_lt {w : World} {b : Nat} {v : Value} {st : Option (List UInt8)} (h : Xst w b v st) : b < w.heap.size := by
  cases st with
  | some bs => exact (Array.getElem?_eq_some_iff.1 (XWr.box h)).1
  | none => obtain ⟨bs, h⟩ := h; exact (Array.getElem?_eq_some_iff.1 h.box).1
theorem xst_own {w : World} {b : Nat} {v : Value} {st : Option (List UInt8)} (h : Xst w b v st) : ∀ k, v.ownBlock = some k → k < w.heap.size := by
  intro k hk
  cases st with
  | some bs => exact ((XWr.row h).lt k hk).2
  | none => obtain ⟨bs, h⟩ := h; exact (h.row.lt k hk).2
theorem xwC_good (b : Nat) (v : Value) (st : Option (List UInt8)) : (xwC b v st).Good := fun w w' h _ hk =>
  xst_kept h (hk b (by simp [xwC])) (fun k hk' => hk k (by simp [xwC, hk']))
theorem All.xstep {b : Nat} {v v' : Value} {st st' : Option (List UInt8)} {cs : List Comp} {w w' : World} (h : All (xwC b v st :: cs) w) (h1 : Xst w' b v' st') (h2 : WStep b w v w' v') : All (xwC b v' st' :: cs) w' := by
  refine h.turn ⟨h2.os, h2.tape, h2.output, h2.size, fun k hk hn => ?_⟩ (xwC_good _ _ _) h1 (fun k hk => ?_) (fun k hk => ?_)
  · simp [xwC] at hn
    exact h2.block k hk hn.1 (fun e => hn.2 e.symm)
  · simp [xwC] at hk
    rcases hk with rfl | hk
    · exact Or.inl (by simp [xwC])
    · rcases h2.own k hk with e | e
      · exact Or.inl (by simp [xwC, e])
      · exact Or.inr e
  · simp [xwC] at hk
    rcases hk with rfl | hk
    · exact xst_lt h1
    · exact xst_own h1 k hk
theorem xnewW {cs : List Comp} {w : World} (h : All cs w) : Calls Tryz.prog 44 #[] w fun e w' => ∃ b, e = .returned (.pointer (some ⟨b, 0, none⟩)) ∧ All (xwC b (.slice none 0 0) (some []) :: cs) w' :=
  (xnew_any w).mono fun e w' ⟨h1, h3, h2⟩ => ⟨_, h1, h.add (Fr.below h3) (xwC_good _ _ _) h2 (fun k hk => by
    have hk' : k = w.heap.size := by simpa [xwC, Value.ownBlock] using hk
    subst hk'
    exact ⟨Nat.le_refl _, xst_lt h2⟩)⟩
theorem xtextW {b : Nat} {v : Value} {st : Option (List UInt8)} {cs : List Comp} {w : World} (h : All (xwC b v st :: cs) w) (s : ByteArray) (hlen : lenS st + s.size + 10 ≤ 140737488355328) : Calls Tryz.prog 88 #[.pointer (some ⟨b, 0, none⟩), .string s] w fun e w' => e = .returned (.tuple #[]) ∧ ∃ v', All (xwC b v' (addS st (enc 9 s.size ++ s.data.toList)) :: cs) w' :=
  (xtext_any h.1.2.1 s hlen).mono fun e w' ⟨h1, v', h2, h3⟩ => ⟨h1, v', h.xstep h2 h3⟩
theorem xnumW {b : Nat} {v : Value} {st : Option (List UInt8)} {cs : List Comp} {w : World} (h : All (xwC b v st :: cs) w) (n : Int) (hn : n < 9223372036854775808) (hlen : lenS st + 10 ≤ 140737488355328) : Calls Tryz.prog 45 #[.pointer (some ⟨b, 0, none⟩), .int .i64 n] w fun e w' => e = .returned (.tuple #[]) ∧ ∃ v', All (xwC b v' (numS st n) :: cs) w' :=
  (xnum_any h.1.2.1 n hn hlen).mono fun e w' ⟨h1, v', h2, h3⟩ => ⟨h1, v', h.xstep h2 h3⟩
theorem xnatW {b : Nat} {v : Value} {st : Option (List UInt8)} {cs : List Comp} {w : World} (h : All (xwC b v st :: cs) w) (n : Nat) (hn : n < 9223372036854775808) (hlen : lenS st + 10 ≤ 140737488355328) : Calls Tryz.prog 45 #[.pointer (some ⟨b, 0, none⟩), .int .i64 (n : Int)] w fun e w' => e = .returned (.tuple #[]) ∧ ∃ v', All (xwC b v' (addS st (enc 9 n)) :: cs) w' := by
  have := xnumW h (n : Int) (by omega) hlen
  rw [numS_nat] at this
  exact this

theorem xdoneW {b : Nat} {v : Value} {bs : List UInt8} {cs : List Comp} {w : World} (h : All (xwC b v (some bs) :: cs) w) (hlen : bs.length ≤ 140737488355328) : Calls Tryz.prog 61 #[.pointer (some ⟨b, 0, none⟩)] w fun e w' => ∃ so sc, e = .returned (.tuple #[.slice so bs.length sc, .int .i64 0]) ∧ All (ownC 5 (.slice so bs.length sc) (cellsB bs) :: xwC b v (some bs) :: cs) w' :=
  (xdone_whole h.1.2.1 hlen).mono fun e w' ⟨s', h1, h2, h3⟩ => by
    obtain ⟨so, sc, rfl⟩ := owns_form h2
    exact ⟨so, sc, h1, h.addOwn h3 (by rw [cellsB_length]; exact h2)⟩

end Go.Proofs.YthoppemjfdnibaaGreatDoor
