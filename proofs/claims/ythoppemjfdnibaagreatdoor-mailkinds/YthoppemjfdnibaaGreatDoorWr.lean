import Derived.Test.YthoppemjfdnibaaGreatDoorRes
namespace Go.Proofs.YthoppemjfdnibaaGreatDoor
open Go.RowKit
set_option linter.unusedVariables false

/-- A writer, as a part. -/
def wrC (b : Nat) (v : Value) (st : Option (List UInt8)) : Comp := ⟨fun w => Wst w b v st, b :: v.ownBlock.toList⟩
theorem wrC_good (b : Nat) (v : Value) (st : Option (List UInt8)) : (wrC b v st).Good := fun w w' h _ hk =>
  Wst.kept h (hk b (by simp [wrC])) (fun k hk' => hk k (by simp [wrC, hk']))
theorem All.wstep {b : Nat} {v v' : Value} {st st' : Option (List UInt8)} {cs : List Comp} {w w' : World} (h : All (wrC b v st :: cs) w) (h1 : Wst w' b v' st') (h2 : WStep b w v w' v') : All (wrC b v' st' :: cs) w' := by
  refine h.turn ⟨h2.os, h2.tape, h2.output, h2.size, fun k hk hn => ?_⟩ (wrC_good _ _ _) h1 (fun k hk => ?_) (fun k hk => ?_)
  · simp [wrC] at hn
    exact h2.block k hk hn.1 (fun e => hn.2 e.symm)
  · simp [wrC] at hk
    rcases hk with rfl | hk
    · exact Or.inl (by simp [wrC])
    · rcases h2.own k hk with e | e
      · exact Or.inl (by simp [wrC, e])
      · exact Or.inr e
  · simp [wrC] at hk
    rcases hk with rfl | hk
    · exact h1.lt
    · exact (h1.own_lt k hk).2

theorem newW {cs : List Comp} {w : World} (h : All cs w) : Calls Tryz.prog 41 #[] w fun e w' => ∃ b, e = .returned (.pointer (some ⟨b, 0, none⟩)) ∧ All (wrC b (.slice none 0 0) (some []) :: cs) w' :=
  (NewWriter_any w).mono fun e w' ⟨h1, h2, h3⟩ => ⟨_, h1, h.add (Fr.below h3) (wrC_good _ _ _) h2 (fun k hk => by
    have hk' : k = w.heap.size := by simpa [wrC, Value.ownBlock] using hk
    subst hk'
    exact ⟨Nat.le_refl _, h2.lt⟩)⟩
theorem textW {b : Nat} {v : Value} {st : Option (List UInt8)} {cs : List Comp} {w : World} (h : All (wrC b v st :: cs) w) (s : ByteArray) (hlen : lenS st + s.size + 10 ≤ 140737488355328) : Calls Tryz.prog 165 #[.pointer (some ⟨b, 0, none⟩), .string s] w fun e w' => e = .returned (.tuple #[]) ∧ ∃ v', All (wrC b v' (addS st (enc 9 s.size ++ s.data.toList)) :: cs) w' :=
  (text_any h.1.2.1 s hlen).mono fun e w' ⟨h1, v', h2, h3⟩ => ⟨h1, v', h.wstep h2 h3⟩
theorem numW {b : Nat} {v : Value} {st : Option (List UInt8)} {cs : List Comp} {w : World} (h : All (wrC b v st :: cs) w) (n : Int) (hn : n < 9223372036854775808) (hlen : lenS st + 10 ≤ 140737488355328) : Calls Tryz.prog 82 #[.pointer (some ⟨b, 0, none⟩), .int .i64 n] w fun e w' => e = .returned (.tuple #[]) ∧ ∃ v', All (wrC b v' (numS st n) :: cs) w' :=
  (num_any h.1.2.1 n hn hlen).mono fun e w' ⟨h1, v', h2, h3⟩ => ⟨h1, v', h.wstep h2 h3⟩
theorem numS_nat (st : Option (List UInt8)) (n : Nat) : numS st (n : Int) = addS st (enc 9 n) := by unfold numS; rw [if_neg (by omega)]; simp
theorem natW {b : Nat} {v : Value} {st : Option (List UInt8)} {cs : List Comp} {w : World} (h : All (wrC b v st :: cs) w) (n : Nat) (hn : n < 9223372036854775808) (hlen : lenS st + 10 ≤ 140737488355328) : Calls Tryz.prog 82 #[.pointer (some ⟨b, 0, none⟩), .int .i64 (n : Int)] w fun e w' => e = .returned (.tuple #[]) ∧ ∃ v', All (wrC b v' (addS st (enc 9 n)) :: cs) w' := by
  have := numW h (n : Int) (by omega) hlen
  rw [numS_nat] at this
  exact this
theorem doneW {b : Nat} {v : Value} {bs : List UInt8} {cs : List Comp} {w : World} (h : All (wrC b v (some bs) :: cs) w) (hlen : bs.length ≤ 140737488355328) : Calls Tryz.prog 43 #[.pointer (some ⟨b, 0, none⟩)] w fun e w' => ∃ so sc, e = .returned (.tuple #[.slice so bs.length sc, .int .i64 0]) ∧ All (ownC 5 (.slice so bs.length sc) (cellsB bs) :: wrC b v (some bs) :: cs) w' :=
  (done_whole h.1.2.1 hlen).mono fun e w' ⟨s', h1, h2, h3⟩ => by
    obtain ⟨so, sc, rfl⟩ := owns_form h2
    exact ⟨so, sc, h1, h.addOwn h3 (by rw [cellsB_length]; exact h2)⟩

/-- What texts are as bytes. -/
def textsB (l : List ByteArray) : List UInt8 := l.flatMap fun t => enc 9 t.size ++ t.data.toList
def itemsB (l : List ByteArray) : List UInt8 := enc 9 l.length ++ textsB l
theorem textsB_take {l : List ByteArray} {k : Nat} (hk : k < l.length) : textsB (l.take (k + 1)) = textsB (l.take k) ++ (enc 9 l[k].size ++ l[k].data.toList) := by
  rw [List.take_succ_eq_append_getElem hk, textsB, List.flatMap_append]; simp [textsB]

/-- All that is bounded: a list's texts, each with what stands ahead of it. -/
def bulkT (l : List ByteArray) : Nat := (l.map fun t => t.size + 10).sum
theorem bulkT_take {l : List ByteArray} {k : Nat} (hk : k < l.length) : (textsB (l.take k)).length + (l[k].size + 10) ≤ bulkT l := by
  induction l generalizing k with
  | nil => simp at hk
  | cons t l ih =>
    cases k with
    | zero => simp [textsB, bulkT]
    | succ k =>
      have := ih (k := k) (by simpa using hk)
      have he := enc_len 9 t.size
      simp only [List.take_succ_cons, textsB, List.flatMap_cons, List.length_append, bulkT, List.map_cons, List.sum_cons, List.getElem_cons_succ, ByteArray.size, Array.length_toList] at *
      omega

set_option maxHeartbeats 1600000 in
set_option maxRecDepth 1000000 in
theorem putItems_any {b : Nat} {v : Value} {st : Option (List UInt8)} {s : Value} {l : List ByteArray} {cs : List Comp} {w : World} (h : All (wrC b v st :: cs) w) (hT : ∀ w', All cs w' → Txts w' s l) (hlen : lenS st + bulkT l + 30 ≤ 140737488355328) (hl : l.length ≤ 1099511627776) :
    Calls Tryz.prog 168 #[.pointer (some ⟨b, 0, none⟩), s] w fun e w' => e = .returned (.tuple #[]) ∧ ∃ v', All (wrC b v' (addS st (itemsB l)) :: cs) w' := by
  obtain ⟨ao, c, rfl⟩ := (hT w h.tail).form
  have HH := hid h
  have HT := hid hT
  clear h hT
  go_enter Tryz.func168, Tryz.ntmps168
  go_wp2_with fail
  refine (natW HH.out l.length (by omega) (by omega)).mono ?_
  rintro e w1 ⟨rfl, v1, A1⟩
  have A1 := hid A1
  clear HH
  go_wp2
  go_loopw [12] (fun iv wr => ∃ (k : Nat) (v' : Value), iv = .int .i64 (k : Int) ∧ k ≤ l.length ∧ Hid (All (wrC b v' (addS st (enc 9 l.length ++ textsB (l.take k))) :: cs) wr)) (fun iv _ => l.length - (intOf iv).toNat)
  case atStart => exact ⟨0, v1, rfl, Nat.zero_le _, by simpa [textsB] using A1⟩
  case round =>
    obtain ⟨k, v', rfl, hk, AR⟩ := hrel
    clear A1
    by_cases hlt : k < l.length
    · obtain ⟨g, o, ea, hg, hcell⟩ := (HT.out wr AR.out.tail).at hlt
      subst ea
      have el : decide ((k : Int) < (l.length : Int)) = true := by simpa using hlt
      have HB : Hid (lenS (addS st (enc 9 l.length ++ textsB (l.take k))) + l[k].size + 10 ≤ 140737488355328) := by
        have h1 := lenS_addS st (enc 9 l.length ++ textsB (l.take k))
        have h2 := bulkT_take hlt
        have h3 := enc_len 9 l.length
        rw [List.length_append] at h1
        show _ ≤ _
        omega
      go_wp2_with fail
      refine (textW AR.out _ HB.out).mono ?_
      rintro e w2 ⟨rfl, v2, A2⟩
      rw [addS_addS, List.append_assoc, ← textsB_take hlt] at A2
      have A2 := hid A2
      clear AR HB
      go_wp2
      go_roundw
      case rel => exact ⟨k + 1, v2, by go_num, by omega, A2⟩
      case measure => simp [intOf]; omega
    · have el : decide ((k : Int) < (l.length : Int)) = false := by simp; omega
      go_wp2
      go_end0
      refine ⟨rfl, v', ?_⟩
      have := AR.out
      rw [List.take_of_length_le (by omega)] at this
      exact this
end Go.Proofs.YthoppemjfdnibaaGreatDoor
