import Derived.Test.YtkcepkehgkkkbabGreatDoorJ15
import Derived.Test.YtkcepkehgkkkbabGreatDoorJ12
namespace Go.Proofs.YtkcepkehgkkkbabGreatDoor
open Go.RowKit
set_option linter.unusedVariables false

theorem txtV_one (l : List ByteArray) : ∀ u ∈ txtV l, u.oneCell' = true := by
  intro u hu
  obtain ⟨_, _, rfl⟩ := List.mem_map.1 hu
  rfl

set_option maxHeartbeats 800000 in
set_option maxRecDepth 1000000 in
theorem tclone_some {w : World} (a : Addr) (c : Nat) (l : List ByteArray) (hc : ∀ j u, (txtV l)[j]? = some u → w.cell? (a.add j) = some u) (hg : l ≠ [] → ∃ g o, a = ⟨g, o, none⟩ ∧ g < w.heap.size) (hlen : l.length ≤ 1000) :
    Calls Tryz.prog 75 #[.slice (some a) l.length c] w fun e w' => ∃ s', e = .returned s' ∧ w'.ownsRow w.heap.size 9 1 s' l.length (txtV l) ∧ Below w.heap.size w w' := by
  obtain ⟨i0, hi, hz0, hz1, hz2⟩ := info_parts Tryz.info9
  have he := fun w => Lib.run_eql_slice_nil (P := Tryz.prog) w 57 9 (some a) l.length c 0 0 Tryz.underlying57
  have hnews : ∀ j u, (txtV l)[j]? = some u → (w.alloc (.cells #[] 9)).cell? (a.add j) = some u := by
    intro j u hu
    have hne : l ≠ [] := by rintro rfl; simp [txtV] at hu
    obtain ⟨g, o, rfl, hgl⟩ := hg hne
    have := hc j u hu
    rw [Addr.add_lit] at this ⊢
    rw [World.cell?_alloc_past _ _ _ hgl]
    exact this
  clear hc hg
  have h0 : (w.alloc (.cells #[] 9)).ownsRow w.heap.size 9 1 (.slice (some ⟨w.heap.size, 0, none⟩) 0 0) 0 [] := World.ownsRow_made w #[] 0 (Nat.le_refl _) (by unfold maxLen; omega) rfl
  go_enter Tryz.func75, Tryz.ntmps75
  go_wp2_with (at_builtin; refine wpList_append_own_at _ rfl (.tmp 5) (.tmp 6) 57 rfl w.heap.size 9 i0 (.string (.mk #[])) 1 16 Tryz.underlying57 hi hz0 hz1 hz2 rfl (by decide) _ _ _ rfl h0 a l.length c (txtV l) rfl (by rw [txtV_length]; omega) hnews (txtV_one _) (by unfold maxLen; omega) (by omega) (by simp) ?_)
  intro v' w1 hown hgr hnil hat
  have R : Hid (w1.ownsRow w.heap.size 9 1 v' l.length (txtV l) ∧ Below w.heap.size w w1) := by
    refine ⟨by simpa using hown, ((Below.refl _ _).alloc (Nat.le_refl _) _).grown hgr (by simp) (fun k hk => ?_)⟩
    simp [Value.ownBlock] at hk
    omega
  clear hown hgr hnil hat h0
  go_wp2
  go_ret
  exact ⟨v', rfl, R.out.1, R.out.2⟩

set_option maxHeartbeats 800000 in
set_option maxRecDepth 1000000 in
theorem tclone_none {w : World} (c : Nat) :
    Calls Tryz.prog 75 #[.slice none 0 c] w fun e w' => e = .returned (.slice none 0 0) ∧ w' = w := by
  have he := fun w => Lib.run_eql_slice_nil (P := Tryz.prog) w 57 9 none 0 c 0 0 Tryz.underlying57
  go_enter Tryz.func75, Tryz.ntmps75
  go_wp2
  go_ret
  exact ⟨rfl, rfl⟩

theorem tclone_any {w : World} {s : Value} {l : List ByteArray} (h : Txts w s l) (hlen : l.length ≤ 1000) :
    Calls Tryz.prog 75 #[s] w fun e w' => ∃ s', e = .returned s' ∧ w'.ownsRow w.heap.size 9 1 s' l.length (txtV l) ∧ Below w.heap.size w w' := by
  obtain ⟨ao, c, rfl, hc, hx⟩ := h
  have hx' : (l = [] ∧ ao = none) ∨ ∃ a, ao = some a ∧ (l ≠ [] → ∃ g o, a = ⟨g, o, none⟩ ∧ g < w.heap.size) ∧ ∀ j u, (txtV l)[j]? = some u → w.cell? (a.add j) = some u := by
    rcases hx with rfl | ⟨g, o, rfl, hg, hcell⟩
    · cases ao with
      | none => exact .inl ⟨rfl, rfl⟩
      | some a => exact .inr ⟨a, rfl, fun h => absurd rfl h, fun j u hu => by simp [txtV] at hu⟩
    · refine .inr ⟨_, rfl, fun _ => ⟨_, _, rfl, hg⟩, fun j u hu => ?_⟩
      simp only [txtV, List.getElem?_map] at hu
      obtain ⟨x, hx, rfl⟩ := Option.map_eq_some_iff.1 hu
      obtain ⟨hj, rfl⟩ := List.getElem?_eq_some_iff.1 hx
      rw [Addr.add_lit]
      exact hcell j hj
  rcases hx' with ⟨rfl, rfl⟩ | ⟨a, rfl, hg, hcell⟩
  · refine (tclone_none c).mono ?_
    rintro e w' ⟨rfl, rfl⟩
    exact ⟨_, rfl, World.ownsRow_nil _ _ _ _, Below.refl _ _⟩
  · exact tclone_some a c l hcell hg hlen

end Go.Proofs.YtkcepkehgkkkbabGreatDoor

namespace Go.Proofs.YtkcepkehgkkkbabGreatDoor
open Go.RowKit
set_option linter.unusedVariables false

/-- A writer, as a part. -/
def wrC (b : Nat) (v : Value) (st : Option (List UInt8)) : Comp := ⟨fun w => Wst w b v st, b :: v.ownBlock.toList⟩
theorem wrC_good (b : Nat) (v : Value) (st : Option (List UInt8)) : (wrC b v st).Good := fun w w' h _ hk =>
  Wst.kept h (hk b (by simp [wrC])) (fun k hk' => hk k (by simp [wrC, hk']))
theorem All.wstep {b : Nat} {v v' : Value} {st st' : Option (List UInt8)} {cs : List Comp} {w w' : World} (h : All (wrC b v st :: cs) w) (h1 : Wst w' b v' st') (h2 : WStep b w v w' v') : All (wrC b v' st' :: cs) w' := by
  refine h.turn ⟨h2.os, h2.tape, h2.output, h2.size, fun k hk hn => ?_⟩ (wrC_good _ _ _) h1 (fun k hk => ?_) (fun k hk => ?_)
  · simp [wrC] at hn
    exact h2.block k hk hn.1 (fun e => hn.2 e.symm)
  · simp [wrC] at hk
    rcases hk with rfl | hk
    · exact Or.inl (by simp [wrC])
    · rcases h2.own k hk with e | e
      · exact Or.inl (by simp [wrC, e])
      · exact Or.inr e
  · simp [wrC] at hk
    rcases hk with rfl | hk
    · exact h1.lt
    · exact (h1.own_lt k hk).2

theorem newW {cs : List Comp} {w : World} (h : All cs w) : Calls Tryz.prog 80 #[] w fun e w' => ∃ b, e = .returned (.pointer (some ⟨b, 0, none⟩)) ∧ All (wrC b (.slice none 0 0) (some []) :: cs) w' :=
  (NewWriter_any w).mono fun e w' ⟨h1, h2, h3⟩ => ⟨_, h1, h.add (Fr.below h3) (wrC_good _ _ _) h2 (fun k hk => by
    have hk' : k = w.heap.size := by simpa [wrC, Value.ownBlock] using hk
    subst hk'
    exact ⟨Nat.le_refl _, h2.lt⟩)⟩
theorem textW {b : Nat} {v : Value} {st : Option (List UInt8)} {cs : List Comp} {w : World} (h : All (wrC b v st :: cs) w) (s : ByteArray) (hlen : lenS st + s.size + 10 ≤ 140737488355328) : Calls Tryz.prog 81 #[.pointer (some ⟨b, 0, none⟩), .string s] w fun e w' => e = .returned (.tuple #[]) ∧ ∃ v', All (wrC b v' (addS st (enc 9 s.size ++ s.data.toList)) :: cs) w' :=
  (text_any h.1.2.1 s hlen).mono fun e w' ⟨h1, v', h2, h3⟩ => ⟨h1, v', h.wstep h2 h3⟩
theorem numW {b : Nat} {v : Value} {st : Option (List UInt8)} {cs : List Comp} {w : World} (h : All (wrC b v st :: cs) w) (n : Int) (hn : n < 9223372036854775808) (hlen : lenS st + 10 ≤ 140737488355328) : Calls Tryz.prog 82 #[.pointer (some ⟨b, 0, none⟩), .int .i64 n] w fun e w' => e = .returned (.tuple #[]) ∧ ∃ v', All (wrC b v' (numS st n) :: cs) w' :=
  (num_any h.1.2.1 n hn hlen).mono fun e w' ⟨h1, v', h2, h3⟩ => ⟨h1, v', h.wstep h2 h3⟩
theorem numS_nat (st : Option (List UInt8)) (n : Nat) : numS st (n : Int) = addS st (enc 9 n) := by unfold numS; rw [if_neg (by omega)]; simp
theorem natW {b : Nat} {v : Value} {st : Option (List UInt8)} {cs : List Comp} {w : World} (h : All (wrC b v st :: cs) w) (n : Nat) (hn : n < 9223372036854775808) (hlen : lenS st + 10 ≤ 140737488355328) : Calls Tryz.prog 82 #[.pointer (some ⟨b, 0, none⟩), .int .i64 (n : Int)] w fun e w' => e = .returned (.tuple #[]) ∧ ∃ v', All (wrC b v' (addS st (enc 9 n)) :: cs) w' := by
  have := numW h (n : Int) (by omega) hlen
  rw [numS_nat] at this
  exact this
theorem doneW {b : Nat} {v : Value} {bs : List UInt8} {cs : List Comp} {w : World} (h : All (wrC b v (some bs) :: cs) w) (hlen : bs.length ≤ 140737488355328) : Calls Tryz.prog 84 #[.pointer (some ⟨b, 0, none⟩)] w fun e w' => ∃ so sc, e = .returned (.tuple #[.slice so bs.length sc, .int .i64 0]) ∧ All (ownC 5 (.slice so bs.length sc) (cellsB bs) :: wrC b v (some bs) :: cs) w' :=
  (done_whole h.1.2.1 hlen).mono fun e w' ⟨s', h1, h2, h3⟩ => by
    obtain ⟨so, sc, rfl⟩ := owns_form h2
    exact ⟨so, sc, h1, h.addOwn h3 (by rw [cellsB_length]; exact h2)⟩

/-- What texts are as bytes. -/
def textsB (l : List ByteArray) : List UInt8 := l.flatMap fun t => enc 9 t.size ++ t.data.toList
def itemsB (l : List ByteArray) : List UInt8 := enc 9 l.length ++ textsB l
theorem textsB_take {l : List ByteArray} {k : Nat} (hk : k < l.length) : textsB (l.take (k + 1)) = textsB (l.take k) ++ (enc 9 l[k].size ++ l[k].data.toList) := by
  rw [List.take_succ_eq_append_getElem hk, textsB, List.flatMap_append]; simp [textsB]

/-- All that is bounded: a list's texts, each with what stands ahead of it. -/
def bulkT (l : List ByteArray) : Nat := (l.map fun t => t.size + 10).sum
theorem bulkT_take {l : List ByteArray} {k : Nat} (hk : k < l.length) : (textsB (l.take k)).length + (l[k].size + 10) ≤ bulkT l := by
  induction l generalizing k with
  | nil => simp at hk
  | cons t l ih =>
    cases k with
    | zero => simp [textsB, bulkT]
    | succ k =>
      have := ih (k := k) (by simpa using hk)
      have he := enc_len 9 t.size
      simp only [List.take_succ_cons, textsB, List.flatMap_cons, List.length_append, bulkT, List.map_cons, List.sum_cons, List.getElem_cons_succ, ByteArray.size, Array.length_toList] at *
      omega

set_option maxHeartbeats 1600000 in
set_option maxRecDepth 1000000 in
theorem putItems_any {b : Nat} {v : Value} {st : Option (List UInt8)} {s : Value} {l : List ByteArray} {cs : List Comp} {w : World} (h : All (wrC b v st :: cs) w) (hT : ∀ w', All cs w' → Txts w' s l) (hlen : lenS st + bulkT l + 30 ≤ 140737488355328) (hl : l.length ≤ 1099511627776) :
    Calls Tryz.prog 83 #[.pointer (some ⟨b, 0, none⟩), s] w fun e w' => e = .returned (.tuple #[]) ∧ ∃ v', All (wrC b v' (addS st (itemsB l)) :: cs) w' := by
  obtain ⟨ao, c, rfl⟩ := (hT w h.tail).form
  have HH := hid h
  have HT := hid hT
  clear h hT
  go_enter Tryz.func83, Tryz.ntmps83
  go_wp2_with fail
  refine (natW HH.out l.length (by omega) (by omega)).mono ?_
  rintro e w1 ⟨rfl, v1, A1⟩
  have A1 := hid A1
  clear HH
  go_wp2
  go_loopw [12] (fun iv wr => ∃ (k : Nat) (v' : Value), iv = .int .i64 (k : Int) ∧ k ≤ l.length ∧ Hid (All (wrC b v' (addS st (enc 9 l.length ++ textsB (l.take k))) :: cs) wr)) (fun iv _ => l.length - (intOf iv).toNat)
  case atStart => exact ⟨0, v1, rfl, Nat.zero_le _, by simpa [textsB] using A1⟩
  case round =>
    obtain ⟨k, v', rfl, hk, AR⟩ := hrel
    clear A1
    by_cases hlt : k < l.length
    · obtain ⟨g, o, ea, hg, hcell⟩ := (HT.out wr AR.out.tail).at hlt
      subst ea
      have el : decide ((k : Int) < (l.length : Int)) = true := by simpa using hlt
      have HB : Hid (lenS (addS st (enc 9 l.length ++ textsB (l.take k))) + l[k].size + 10 ≤ 140737488355328) := by
        have h1 := lenS_addS st (enc 9 l.length ++ textsB (l.take k))
        have h2 := bulkT_take hlt
        have h3 := enc_len 9 l.length
        rw [List.length_append] at h1
        show _ ≤ _
        omega
      go_wp2_with fail
      refine (textW AR.out _ HB.out).mono ?_
      rintro e w2 ⟨rfl, v2, A2⟩
      rw [addS_addS, List.append_assoc, ← textsB_take hlt] at A2
      have A2 := hid A2
      clear AR HB
      go_wp2
      go_roundw
      case rel => exact ⟨k + 1, v2, by go_num, by omega, A2⟩
      case measure => simp [intOf]; omega
    · have el : decide ((k : Int) < (l.length : Int)) = false := by simp; omega
      go_wp2
      go_end0
      refine ⟨rfl, v', ?_⟩
      have := AR.out
      rw [List.take_of_length_le (by omega)] at this
      exact this
end Go.Proofs.YtkcepkehgkkkbabGreatDoor

namespace Go.Proofs.YtkcepkehgkkkbabGreatDoor
open Go.RowKit
set_option linter.unusedVariables false

theorem cellsG_at {gs : List (List UInt8 × Int)} {k : Nat} (hk : k < gs.length) : (cellsG gs)[k * 2]? = some (encStr gs[k].1) ∧ (cellsG gs)[k * 2 + 1]? = some (.int .i64 gs[k].2) := by
  induction gs generalizing k with
  | nil => simp at hk
  | cons g gs ih =>
    cases k with
    | zero => simp [cellsG]
    | succ k =>
      have := ih (k := k) (by simpa using hk)
      have e : (k + 1) * 2 = k * 2 + 1 + 1 := by omega
      rw [e]
      simpa [cellsG] using this
theorem cellsG_len (gs : List (List UInt8 × Int)) : (cellsG gs).length = gs.length * 2 := by
  induction gs with
  | nil => rfl
  | cons g gs ih => simp [cellsG] at ih ⊢; omega
theorem rowG_at {w : World} {ao : Option Addr} {n c : Nat} {gs : List (List UInt8 × Int)} (h : w.ownsRow 0 111 2 (.slice ao n c) gs.length (cellsG gs)) {k : Nat} (hk : k < gs.length) : ∃ g, ao = some ⟨g, 0, none⟩ ∧ g < w.heap.size ∧ w.cell? ⟨g, k * 2, none⟩ = some (encStr gs[k].1) ∧ w.cell? ⟨g, k * 2 + 1, none⟩ = some (.int .i64 gs[k].2) := by
  rcases h.2 with ⟨e, e2⟩ | ⟨g, cap, cur, e, _, hg, hn, hm, hcs, ht⟩
  · omega
  · simp only [Value.slice.injEq] at e
    obtain ⟨h1, h2⟩ := cellsG_at hk
    rw [← ht, List.getElem?_take, if_pos (by omega)] at h1
    rw [← ht, List.getElem?_take, if_pos (by omega)] at h2
    refine ⟨g, e.1, (Array.getElem?_eq_some_iff.1 hg).1, ?_, ?_⟩
    · rw [cell_at hg, ← Array.getElem?_toList]; exact h1
    · rw [cell_at hg, ← Array.getElem?_toList]; exact h2

/-- Groups as bytes. -/
def groupsB (gs : List (List UInt8 × Int)) : List UInt8 := gs.flatMap fun g => (enc 9 g.1.length ++ g.1) ++ enc 9 g.2.toNat
theorem groupsB_take {gs : List (List UInt8 × Int)} {k : Nat} (hk : k < gs.length) : groupsB (gs.take (k + 1)) = groupsB (gs.take k) ++ ((enc 9 gs[k].1.length ++ gs[k].1) ++ enc 9 gs[k].2.toNat) := by
  rw [List.take_succ_eq_append_getElem hk, groupsB, List.flatMap_append]; simp [groupsB]
theorem groupsB_len {gs : List (List UInt8 × Int)} (hb : ∀ g ∈ gs, g.1.length ≤ 1048576) : (groupsB gs).length ≤ gs.length * 1048600 := by
  induction gs with
  | nil => simp [groupsB]
  | cons g gs ih =>
    have h1 := ih (fun x hx => hb x (by simp [hx]))
    have h2 := hb g (by simp)
    have h3 := enc_len 9 g.1.length
    have h4 := enc_len 9 g.2.toNat
    simp only [groupsB, List.flatMap_cons, List.length_append, List.length_cons] at h1 ⊢
    omega

/-- A slot's bytes. -/
def slotB (nm : ByteArray) (first : Nat) (items : List ByteArray) (gs : List (List UInt8 × Int)) : List UInt8 :=
  (enc 9 nm.size ++ nm.data.toList) ++ (enc 9 first ++ (itemsB items ++ (enc 9 gs.length ++ groupsB gs)))

theorem txts_of {e : TypeId} {ao : Option Addr} {n c : Nat} {l : List ByteArray} {cs : List Comp} {w : World} (h : All cs w) (hm : ownC 9 (.slice ao n c) (txtV l) ∈ cs) : Txts w (.slice ao n c) l := by
  have hrow : w.ownsRow 0 9 1 (.slice ao n c) (txtV l).length (txtV l) := (h.mem hm).2.1
  obtain ⟨h1, h2⟩ := owns_len hrow
  rw [List.length_map] at h1 h2
  subst h1
  refine ⟨ao, c, rfl, h2, ?_⟩
  cases l with
  | nil => exact Or.inl rfl
  | cons t l =>
    right
    obtain ⟨g, ea, _, _⟩ := owns_at hrow (k := 0) (u := .string t) rfl
    refine ⟨g, 0, ea, (h.mem hm).2.2 g (by rw [ea]; simp [ownC, Value.ownBlock]), fun j hj => ?_⟩
    obtain ⟨g', ea', hc, _⟩ := owns_at hrow (k := j) (u := .string (t :: l)[j]) (by rw [List.getElem?_map, List.getElem?_eq_getElem hj]; rfl)
    rw [ea] at ea'
    cases ea'
    rw [Nat.zero_add]
    exact hc
end Go.Proofs.YtkcepkehgkkkbabGreatDoor
