import Derived.Test.YtpfpamkbahgkpaaShelf
import Derived.Deep.QuietTactic
import Derived.BigQuiet
import Derived.Laws.Rows
import Derived.Deep.MidRow
import Derived.Deep.RegionHeld3
import Derived.Deep.DeepCutAuto
namespace Go.Proofs.Ytpfpamkbahgkpaa
open Go.RowKit
set_option linter.unusedVariables false

theorem Try.info5 : (Try.prog.info? 5).map (fun i => (i.zero, i.size, i.bytes)) = some (some (.int .u8 0), 1, 1) := by kernel_rfl

/-- Bytes as cells. -/
def cellsB (l : List UInt8) : List Value := l.map fun b => Value.int .u8 (b.toNat : Int)

theorem cellsB_length (l : List UInt8) : (cellsB l).length = l.length := by simp [cellsB]
theorem cellsB_append (a b : List UInt8) : cellsB (a ++ b) = cellsB a ++ cellsB b := by simp [cellsB]
theorem cellsB_one (l : List UInt8) : ∀ u ∈ cellsB l, u.oneCell' = true := by
  intro u hu
  obtain ⟨_, _, rfl⟩ := List.mem_map.1 hu
  rfl

/-- A slice of bytes, read in a world; of an empty one's address nothing is known. -/
def Reads (w : World) (s : Value) (l : List UInt8) : Prop :=
  ∃ ao c, s = .slice ao l.length c ∧ l.length ≤ c ∧ ((l = [] ∧ (ao = none → c = 0)) ∨ ∃ g o, ao = some ⟨g, o, none⟩ ∧ g < w.heap.size ∧ ∀ j u, (cellsB l)[j]? = some u → w.cell? ⟨g, o + j, none⟩ = some u)

theorem Reads.form {w : World} {s : Value} {l : List UInt8} (h : Reads w s l) : ∃ ao c, s = .slice ao l.length c := by
  obtain ⟨ao, c, rfl, _⟩ := h
  exact ⟨ao, c, rfl⟩

theorem Reads.nil (w : World) : Reads w (.slice none 0 0) [] := ⟨none, 0, rfl, by simp, Or.inl ⟨rfl, fun _ => rfl⟩⟩

theorem Reads.at_u8 {w : World} {ao : Option Addr} {n c : Nat} {l : List UInt8} (h : Reads w (.slice ao n c) l) (k : Nat) (hk : k < l.length) : ∃ g o, ao = some ⟨g, o, none⟩ ∧ w.cell? ⟨g, o + k, none⟩ = some (.int .u8 ((l.getD k 0).toNat : Int)) := by
  obtain ⟨ao', c', e, hc, hcase⟩ := h
  simp only [Value.slice.injEq] at e
  obtain ⟨rfl, rfl, rfl⟩ := e
  rcases hcase with ⟨rfl, _⟩ | ⟨g, o, rfl, hg, hcell⟩
  · simp at hk
  · exact ⟨g, o, rfl, hcell k _ (by simp [cellsB, hk, List.getD])⟩

/-- Bytes that are read stay, where their block stays. -/
theorem Reads.kept {w w' : World} {s : Value} {l : List UInt8} (h : Reads w s l) (hsz : w.heap.size ≤ w'.heap.size) (hb : ∀ k, k < w.heap.size → s.ownBlock = some k → w'.heap[k]? = w.heap[k]?) : Reads w' s l := by
  obtain ⟨ao, c, rfl, hc, hcase⟩ := h
  refine ⟨ao, c, rfl, hc, ?_⟩
  rcases hcase with hn | ⟨g, o, rfl, hg, hcell⟩
  · exact Or.inl hn
  · refine Or.inr ⟨g, o, rfl, Nat.lt_of_lt_of_le hg hsz, fun j u hu => ?_⟩
    rw [World.cell?_of_block (w := w) (hb g hg rfl)]
    exact hcell j u hu

theorem Reads.below {w w' : World} {s : Value} {l : List UInt8} (h : Reads w s l) (hw : Below w.heap.size w w') : Reads w' s l :=
  h.kept hw.size fun k hk _ => hw.block k hk

theorem Reads.drewN {w : World} {s : Value} {l : List UInt8} (h : Reads w s l) (q : Nat) : Reads (w.drewN q) s l := h.kept (Nat.le_refl _) (fun _ _ _ => rfl)
theorem Reads.drew {w : World} {s : Value} {l : List UInt8} (h : Reads w s l) : Reads w.drew s l := h.kept (Nat.le_refl _) (fun _ _ _ => rfl)

theorem Reads.of_owns {w : World} {base : Nat} {s : Value} {l : List UInt8} (h : w.ownsRow base 5 1 s l.length (cellsB l)) : Reads w s l := by
  have hc := fun g => h.cells (g := g)
  rcases h.2 with ⟨rfl, e⟩ | ⟨g, cap, cur, rfl, hg, hgg, hn, _⟩
  · exact ⟨none, 0, by rw [e], by omega, Or.inl ⟨List.eq_nil_of_length_eq_zero e, fun _ => rfl⟩⟩
  · refine ⟨_, cap, rfl, hn, Or.inr ⟨g, 0, rfl, (Array.getElem?_eq_some_iff.1 hgg).1, fun j u hu => ?_⟩⟩
    have := hc g rfl j u hu
    simpa [Addr.add_lit] using this

theorem u8_eq {a b : UInt8} (h : a.toNat = b.toNat) : a = b := UInt8.toNat_inj.1 h
theorem differ_at {l t : List UInt8} (hl : l.length = t.length) (h : l ≠ t) : ∃ k, k < l.length ∧ l.getD k 0 ≠ t.getD k 0 := by
  apply Classical.byContradiction
  intro hn
  apply h
  apply List.ext_getElem hl
  intro i h1 h2
  apply Classical.byContradiction
  intro hne
  exact hn ⟨i, h1, by simpa [List.getD, List.getElem?_eq_getElem h1, List.getElem?_eq_getElem h2] using hne⟩

/-- Whether two lists are alike. -/
def alike (l t : List UInt8) : Bool := decide (l = t)

set_option maxHeartbeats 1600000 in
set_option maxRecDepth 1000000 in
theorem same_any {w : World} {s t : Value} {l m : List UInt8} (hs : Reads w s l) (ht : Reads w t m) (hl : l.length ≤ 140737488355328) (hm : m.length ≤ 140737488355328) :
    Calls Try.prog 27 #[s, t] w fun e w' => e = .returned (.bool (alike l m)) ∧ ∃ q, w' = w.drewN q := by
  obtain ⟨ao, c, hf⟩ := hs.form
  obtain ⟨ao', c', hf'⟩ := ht.form
  subst hf hf'
  have HS := hid hs
  have HT := hid ht
  clear hs ht
  by_cases hlm : l.length = m.length
  · have hne : ((l.length : Int) != (m.length : Int)) = false := by simp [hlm]
    go_enter Try.func27, Try.ntmps27
    go_wp2
    go_loopw [5] (fun iv wr => ∃ (k q : Nat), k ≤ l.length ∧ iv = .int .i64 (k : Int) ∧ Hid (∀ j, j < k → l.getD j 0 = m.getD j 0) ∧ w.drewN q = wr) (fun iv _ => l.length - (intOf iv).toNat)
    case atStart => exact ⟨0, 0, by omega, rfl, fun j hj => by omega, rfl⟩
    case round =>
      obtain ⟨k, q, hk, rfl, hall, rfl⟩ := hrel
      by_cases hlt : k < l.length
      · obtain ⟨g, o, rfl, h1⟩ := HS.out.at_u8 k hlt
        obtain ⟨g', o', rfl, h2⟩ := HT.out.at_u8 k (by omega)
        obtain ⟨x, hxx⟩ : ∃ x, x = (l.getD k 0).toNat := ⟨_, rfl⟩
        obtain ⟨y, hyy⟩ : ∃ y, y = (m.getD k 0).toNat := ⟨_, rfl⟩
        rw [← hxx] at h1
        rw [← hyy] at h2
        have HX := hid hxx
        have HY := hid hyy
        clear hxx hyy
        have hkm : k < m.length := by omega
        by_cases hxy : x = y
        · have hb : ((x : Int) != (y : Int)) = false := by simp [hxy]
          have hxy' := hid hxy
          clear hxy
          go_wp2
          go_region
          go_wp2
          go_roundw
          case rel => exact ⟨k + 1, q + 1, by omega, by go_num, fun j hj => by
            by_cases hjk : j < k
            · exact hall.out j hjk
            · have : j = k := by omega
              subst this
              exact u8_eq (by rw [← HX.out, ← HY.out]; exact hxy'.out), by rfl⟩
          case measure => simp [intOf]; omega
        · have hb : ((x : Int) != (y : Int)) = true := by simp; omega
          have hxy' := hid hxy
          clear hxy
          go_wp2
          go_region
          go_wp2
          go_ret
          refine ⟨?_, q + 1, rfl⟩
          have : alike l m = false := decide_eq_false (fun e => by
            subst e
            exact hxy'.out (by rw [HX.out, HY.out]))
          rw [this]; rfl
      · have hfin := hid (show alike l m = true from decide_eq_true (Classical.byContradiction fun hn => by
          obtain ⟨j, hj, hd⟩ := differ_at hlm hn
          exact hd (hall.out j (by omega))))
        go_wp2
        go_ret
        exact ⟨by rw [hfin.out]; rfl, q, rfl⟩
  · have hne : ((l.length : Int) != (m.length : Int)) = true := by simp; omega
    have hfin := hid (show alike l m = false from decide_eq_false (fun e => hlm (by rw [e])))
    clear hlm
    go_enter Try.func27, Try.ntmps27
    go_wp2
    go_ret
    exact ⟨by rw [hfin.out]; rfl, 0, rfl⟩

theorem owns_empty (w : World) : (w.alloc (.cells #[] 5)).ownsRow w.heap.size 5 1 (.slice (some ⟨w.heap.size, 0, none⟩) 0 0) 0 [] :=
  ⟨by simp, Or.inr ⟨w.heap.size, 0, #[], rfl, Nat.le_refl _, heap_alloc_new _ _, Nat.le_refl _, by unfold maxLen; omega, by simp, by simp⟩⟩

theorem grown_below {w w1 : World} {o : Obj} {k : Nat} (h : (w.alloc o).grownBy w1 (some k)) (hk : w.heap.size ≤ k) : Below w.heap.size w w1 :=
  ((Below.refl _ _).alloc (Nat.le_refl _) o).grown h (by simp) (fun j hj => by simp at hj; omega)

set_option maxHeartbeats 1600000 in
set_option maxRecDepth 1000000 in
theorem lcopied_any {w : World} {s : Value} {l : List UInt8} (h : Reads w s l) (hlen : l.length ≤ 140737488351300) :
    Calls Try.prog 22 #[s] w fun e w' => ∃ v, e = .returned v ∧ w'.ownsRow w.heap.size 5 1 v l.length (cellsB l) ∧ Below w.heap.size w w' := by
  obtain ⟨i0, hi, hz0, hz1, hz2⟩ := info_parts Try.info5
  have hown0 := owns_empty w
  obtain ⟨ao, c, hf, hcl, hcase⟩ := h
  subst hf
  have key : ∀ a : Addr, (∀ j u, (cellsB l)[j]? = some u → (w.alloc (.cells #[] 5)).cell? (a.add j) = some u) → Calls Try.prog 22 #[.slice (some a) l.length c] w fun e w' => ∃ v, e = .returned v ∧ w'.ownsRow w.heap.size 5 1 v l.length (cellsB l) ∧ Below w.heap.size w w' := by
    intro a hcell
    clear hcase
    go_enter Try.func22, Try.ntmps22
    go_wp2_with (at_builtin; refine wpList_append_own_at _ rfl (.tmp 5) (.tmp 6) 31 rfl w.heap.size 5 i0 (.int .u8 0) 1 1 Try.underlying31 hi hz0 hz1 hz2 rfl (by decide) _ _ _ rfl hown0 a l.length c (cellsB l) rfl (by rw [cellsB_length]; omega) hcell (cellsB_one _) (by unfold maxLen; omega) (by omega) (by simp) ?_)
    intro v' w1 hown hg hnil hat
    have R := hid (show w1.ownsRow w.heap.size 5 1 v' l.length (cellsB l) ∧ Below w.heap.size w w1 from ⟨by simpa using hown, grown_below hg (Nat.le_refl _)⟩)
    obtain ⟨x, y, hv⟩ := owns_form hown
    subst hv
    clear hown hg hnil hat hown0 hcell
    go_wp2
    go_ret
    exact ⟨_, rfl, R.out⟩
  rcases hcase with ⟨rfl, h0⟩ | ⟨g, o, rfl, hg, hcell⟩
  · cases ao with
    | some a => exact key a (fun j u hu => by simp [cellsB] at hu)
    | none =>
      obtain rfl := h0 rfl
      have R := hid (show (w.alloc (.cells #[] 5)).ownsRow w.heap.size 5 1 (.slice (some ⟨w.heap.size, 0, none⟩) 0 0) 0 [] ∧ Below w.heap.size w (w.alloc (.cells #[] 5)) from ⟨hown0, (Below.refl _ _).alloc (Nat.le_refl _) _⟩)
      clear key h0
      go_enter Try.func22, Try.ntmps22
      go_wp2_with (at_builtin; refine wpList_append_own_none rfl (.tmp 5) (.tmp 6) 31 rfl w.heap.size 5 i0 1 Try.underlying31 hi _ _ _ rfl hown0 rfl ?_)
      clear hown0
      go_wp2
      go_ret
      exact ⟨_, rfl, R.out⟩
  · refine key _ (fun j u hu => ?_)
    rw [Addr.add_lit, World.cell?_of_block (w := w) (Below.heap_alloc _ _ _ hg)]
    exact hcell j u hu
end Go.Proofs.Ytpfpamkbahgkpaa
