import Derived.Test.YtaomhahmpbfjhaaShelf
import Derived.Laws.BytesArg
import Derived.WideShapes
import Derived.Lib.Strings
import Derived.Laws.AppendOwn
namespace Go.Proofs.Ytaomhahmpbfjhaa
open Go.RowKit
set_option linter.unusedVariables false

theorem Try.info5 : (Try.prog.info? 5).map (fun i => (i.zero, i.size, i.bytes)) = some (some (.int .u8 0), 1, 1) := by kernel_rfl

/-- Bytes as cells. -/
def cellsB (l : List UInt8) : List Value := l.map fun b => Value.int .u8 (b.toNat : Int)

theorem cellsB_length (l : List UInt8) : (cellsB l).length = l.length := by simp [cellsB]
theorem cellsB_append (a b : List UInt8) : cellsB (a ++ b) = cellsB a ++ cellsB b := by simp [cellsB]
theorem cellsB_one (l : List UInt8) : ∀ u ∈ cellsB l, u.oneCell' = true := by
  intro u hu
  obtain ⟨_, _, rfl⟩ := List.mem_map.1 hu
  rfl
theorem cellsB_inj {a b : List UInt8} (h : cellsB a = cellsB b) : a = b := by
  unfold cellsB at h
  refine (List.map_inj_right ?_).1 h
  intro x y e
  simp only [Value.int.injEq, true_and] at e
  exact UInt8.toNat_inj.1 (by exact_mod_cast e)

/-- A slice of bytes, read in a world; of an empty one's address nothing is known. -/
def Reads (w : World) (s : Value) (l : List UInt8) : Prop :=
  ∃ ao c, s = .slice ao l.length c ∧ l.length ≤ c ∧ ((l = [] ∧ (ao = none → c = 0)) ∨ ∃ g o, ao = some ⟨g, o, none⟩ ∧ g < w.heap.size ∧ ∀ j u, (cellsB l)[j]? = some u → w.cell? ⟨g, o + j, none⟩ = some u)

theorem Reads.form {w : World} {s : Value} {l : List UInt8} (h : Reads w s l) : ∃ ao c, s = .slice ao l.length c := by
  obtain ⟨ao, c, rfl, _⟩ := h
  exact ⟨ao, c, rfl⟩

theorem Reads.nil (w : World) : Reads w (.slice none 0 0) [] := ⟨none, 0, rfl, by simp, Or.inl ⟨rfl, fun _ => rfl⟩⟩

theorem Reads.at_u8 {w : World} {ao : Option Addr} {n c : Nat} {l : List UInt8} (h : Reads w (.slice ao n c) l) (k : Nat) (hk : k < l.length) : ∃ g o, ao = some ⟨g, o, none⟩ ∧ w.cell? ⟨g, o + k, none⟩ = some (.int .u8 ((l.getD k 0).toNat : Int)) := by
  obtain ⟨ao', c', e, hc, hcase⟩ := h
  simp only [Value.slice.injEq] at e
  obtain ⟨rfl, rfl, rfl⟩ := e
  rcases hcase with ⟨rfl, _⟩ | ⟨g, o, rfl, hg, hcell⟩
  · simp at hk
  · exact ⟨g, o, rfl, hcell k _ (by simp [cellsB, hk, List.getD])⟩

/-- Bytes that are read stay, where their block stays. -/
theorem Reads.kept {w w' : World} {s : Value} {l : List UInt8} (h : Reads w s l) (hsz : w.heap.size ≤ w'.heap.size) (hb : ∀ k, k < w.heap.size → s.ownBlock = some k → w'.heap[k]? = w.heap[k]?) : Reads w' s l := by
  obtain ⟨ao, c, rfl, hc, hcase⟩ := h
  refine ⟨ao, c, rfl, hc, ?_⟩
  rcases hcase with hn | ⟨g, o, rfl, hg, hcell⟩
  · exact Or.inl hn
  · refine Or.inr ⟨g, o, rfl, Nat.lt_of_lt_of_le hg hsz, fun j u hu => ?_⟩
    rw [World.cell?_of_block (w := w) (hb g hg rfl)]
    exact hcell j u hu

theorem Reads.below {w w' : World} {s : Value} {l : List UInt8} (h : Reads w s l) (hw : Below w.heap.size w w') : Reads w' s l :=
  h.kept hw.size fun k hk _ => hw.block k hk

theorem Reads.drewN {w : World} {s : Value} {l : List UInt8} (h : Reads w s l) (q : Nat) : Reads (w.drewN q) s l := h.kept (Nat.le_refl _) (fun _ _ _ => rfl)
theorem Reads.drew {w : World} {s : Value} {l : List UInt8} (h : Reads w s l) : Reads w.drew s l := h.kept (Nat.le_refl _) (fun _ _ _ => rfl)

theorem Reads.of_owns {w : World} {base : Nat} {s : Value} {l : List UInt8} (h : w.ownsRow base 5 1 s l.length (cellsB l)) : Reads w s l := by
  have hc := fun g => h.cells (g := g)
  rcases h.2 with ⟨rfl, e⟩ | ⟨g, cap, cur, rfl, hg, hgg, hn, _⟩
  · exact ⟨none, 0, by rw [e], by omega, Or.inl ⟨List.eq_nil_of_length_eq_zero e, fun _ => rfl⟩⟩
  · refine ⟨_, cap, rfl, hn, Or.inr ⟨g, 0, rfl, (Array.getElem?_eq_some_iff.1 hgg).1, fun j u hu => ?_⟩⟩
    have := hc g rfl j u hu
    simpa [Addr.add_lit] using this

/-- A text of bytes. -/
def txt (l : List UInt8) : ByteArray := ⟨l.toArray⟩
theorem txt_inj {a b : List UInt8} (h : txt a = txt b) : a = b := by
  simpa [txt] using h

theorem strOf_bytes (l : List UInt8) : strOfNums (l.map fun b => (b.toNat : Int)) = txt l := by
  unfold strOfNums txt
  congr 1
  simp only [List.map_map]
  congr 1
  conv => rhs; rw [← List.map_id l]
  refine List.map_congr_left (fun b _ => ?_)
  simp

/-- string(b). -/
theorem conv_reads {w : World} {s : Value} {l : List UInt8} (h : Reads w s l) : (convert 36 9 s).run Try.prog w = .ok (.string (txt l)) w := by
  obtain ⟨ao, c, rfl, hc, hcase⟩ := h
  rcases hcase with ⟨rfl, h0⟩ | ⟨g, o, rfl, hg, hcell⟩
  · rw [run_convert_bytes_string w 36 9 5 ao _ c Try.underlying36 Try.underlying5 Try.underlying9]
    cases ao <;> simp [Conv.bytesToString, loadCells]
    all_goals rfl
  · have := run_convert_bytes_arg (P := Try.prog) w 36 5 Try.underlying36 Try.underlying5 g o l.length c (l.map fun b => (b.toNat : Int)) (by simp) (fun i hi => by
      refine hcell i _ ?_
      simp [cellsB, List.getElem?_eq_getElem hi, List.getD]) 9 Try.underlying9
    rw [strOf_bytes] at this
    exact this

set_option maxHeartbeats 1000000 in
theorem Equal_any {w : World} {s t : Value} {l m : List UInt8} (hs : Reads w s l) (ht : Reads w t m) : Calls Try.prog 35 #[s, t] w fun e w' => e = .returned (.bool (decide (l = m))) ∧ w' = w := by
  have g1 := conv_reads hs
  have g2 := conv_reads ht
  obtain ⟨a1, c1, rfl⟩ := hs.form
  obtain ⟨a2, c2, rfl⟩ := ht.form
  have e : ((txt l).toList == (txt m).toList) = decide (l = m) := by
    rw [Lib.toList_data, Lib.toList_data]
    by_cases h : l = m
    · subst h; simp
    · have : ¬ (txt l).data = (txt m).data := fun e => h (by simpa [txt] using e)
      simp [h, this]
  generalize l.length = n1 at *
  generalize l = l1, m = m1 at *
  clear hs ht
  go_enter Try.func35, Try.ntmps35
  go_wp2
  go_ret
  exact ⟨by simp, rfl⟩

set_option maxHeartbeats 1000000 in
theorem Clone_any {w : World} {s : Value} {l : List UInt8} (hs : Reads w s l) (hl : l.length ≤ 140737488355328) : Calls Try.prog 44 #[s] w fun e w' => ∃ v, e = .returned v ∧ w'.ownsRow w.heap.size 5 1 v l.length (cellsB l) ∧ Below w.heap.size w w' := by
  obtain ⟨ao, c, rfl, hc, hcase⟩ := hs
  obtain ⟨i0, hi, hz0, hz1, hz2⟩ := info_parts Try.info5
  have t36 := Try.underlying36
  have q36 : ∀ (w : World) (a : Option Addr) (n c n' c' : Nat), (binOp .eql 36 (.slice a n c) (.slice none n' c')).run Try.prog w = .ok (.bool a.isNone) w := fun w a n c n' c' => Lib.run_eql_slice_nil w _ _ a n c n' c' Try.underlying36
  cases ao with
  | none =>
    have h0 : l = [] := by
      rcases hcase with h | ⟨g, o, e, _⟩
      · exact h.1
      · cases e
    subst h0
    go_enter Try.func44, Try.ntmps44
    go_wp2
    go_ret
    exact ⟨_, rfl, ⟨by simp [cellsB], Or.inl ⟨rfl, rfl⟩⟩, Below.refl _ _⟩
  | some a =>
    have A : Hid (∀ j u, (cellsB l)[j]? = some u → w.cell? (a.add j) = some u) := by
      rcases hcase with h | ⟨g, o, e, _, h⟩
      · exact hid (fun j u hu => by rw [h.1] at hu; simp [cellsB] at hu)
      · cases e
        exact hid (by simpa [Addr.add_lit] using h)
    have L : Hid (l.length ≤ 140737488355328) := hid hl
    have Q : Hid (cellsB l = cellsB l ∧ (cellsB l).length = l.length) := hid ⟨rfl, cellsB_length l⟩
    clear hcase hl hc
    have O := cellsB_one l
    obtain ⟨n, hn⟩ : ∃ n, Hid (n = l.length) := ⟨_, hid rfl⟩
    rw [← hn.out]
    generalize hxs : cellsB l = xs at *
    have Q2 : Hid (xs.length = n) := hid (by rw [hn.out]; exact Q.out.2)
    have L2 : Hid (n ≤ 140737488355328) := hid (by rw [hn.out]; exact L.out)
    clear hxs Q L hn
    go_enter Try.func44, Try.ntmps44
    go_wp2_with (at_builtin; refine wpList_append_own _ rfl _ _ 36 rfl w.heap.size 5 i0 (.int .u8 0) 1 1 t36 hi hz0 hz1 hz2 rfl (by decide) _ _ _ rfl (World.ownsRow_made w #[] 0 (Nat.le_refl _) (Nat.zero_le _) rfl) a n c xs rfl ?qc1 ?qc2 ?qc3 ?qc4 ?qc5 ?qc6 ?_)
    case qc1 => simp; exact Q2.out
    case qc2 =>
      intro j u hj
      exact Lib.cell?_alloc_some _ (A.out j u hj)
    case qc3 => exact O
    case qc4 => have := L2.out; unfold maxLen; omega
    case qc5 => have := L2.out; omega
    case qc6 => simp
    intro v' w1 hown hgrow hnil
    go_wp2
    go_ret
    refine ⟨v', rfl, ?_, ?_⟩
    · simpa using hown
    · exact ((Below.refl _ w).alloc (Nat.le_refl _) _).grown hgrow (by simp) (by intro k hk; simp [Value.ownBlock] at hk; omega)

end Go.Proofs.Ytaomhahmpbfjhaa
