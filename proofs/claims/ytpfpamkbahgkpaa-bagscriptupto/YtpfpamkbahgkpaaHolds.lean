import Derived.Test.YtpfpamkbahgkpaaLaw3
import Derived.Deep.RegionWith
import Derived.Deep.DrawnRows
namespace Go.Proofs.Ytpfpamkbahgkpaa
open Go.RowKit
set_option linter.unusedVariables false

/-- Bytes of one's own. -/
def byR (v : Value) (l : List UInt8) : Comp := ⟨fun w => w.ownsRow 0 5 1 v l.length (cellsB l), v.ownBlock.toList⟩
theorem byR_eq (v : Value) (l : List UInt8) : byR v l = byC v l := by
  simp only [byR, byC, ownC, cellsB_length]
theorem Try.info31 : (Try.prog.info? 31).map (fun i => (i.zero, i.size, i.bytes)) = some (some (.slice none 0 0), 1, 24) := by kernel_rfl
theorem byR_good (v : Value) (l : List UInt8) : (byR v l).Good := by rw [byR_eq]; exact ownC_good _ _ _
theorem All.addByR {cs : List Comp} {w w' : World} {v : Value} {l : List UInt8} (h : All cs w) (hb : Below w.heap.size w w') (ho : w'.ownsRow w.heap.size 5 1 v l.length (cellsB l)) : All (byR v l :: cs) w' := by
  rw [byR_eq]
  exact h.addOwn hb (by rw [cellsB_length]; exact ho)
attribute [local go_sem ↓] Go.wp_at_zero Go.wp_at_succ

/-- A list that was handed out, its copy, and what each reads as. -/
structure En where
  a : Value
  m : Value
  la : List UInt8
  lm : List UInt8

/-- The shelf's own memory. -/
structure ShBox (w : World) (S : Nat) (ov wv : Value) (es : List En) : Prop where
  box : w.heap[S]? = some (.cells #[ov, wv] 30 (0, 0))
  orow : w.ownsRow 0 31 1 ov es.length (es.map En.a)
  wrow : w.ownsRow 0 31 1 wv es.length (es.map En.m)

theorem ShBox.at {w : World} {S : Nat} {ov wv : Value} {es : List En} (h : ShBox w S ov wv es) (i : Nat) (e : En) (hi : es[i]? = some e) :
    ∃ g c g' c', ov = .slice (some ⟨g, 0, none⟩) es.length c ∧ wv = .slice (some ⟨g', 0, none⟩) es.length c' ∧ w.cell? ⟨g, i, none⟩ = some e.a ∧ w.cell? ⟨g', i, none⟩ = some e.m := by
  have hlt : i < es.length := (List.getElem?_eq_some_iff.1 hi).1
  have q1 := fun g => World.ownsRow.cells h.orow (g := g)
  have q2 := fun g => World.ownsRow.cells h.wrow (g := g)
  rcases h.orow.2 with ⟨_, e0⟩ | ⟨g, c, _, eo, _⟩
  · omega
  rcases h.wrow.2 with ⟨_, e0⟩ | ⟨g', c', _, ew, _⟩
  · omega
  refine ⟨g, c, g', c', eo, ew, ?_, ?_⟩
  · have := q1 g (by rw [eo]; rfl) i e.a (by simp [hi])
    simpa [Addr.add_lit] using this
  · have := q2 g' (by rw [ew]; rfl) i e.m (by simp [hi])
    simpa [Addr.add_lit] using this

theorem ShBox.forms {w : World} {S : Nat} {ov wv : Value} {es : List En} (h : ShBox w S ov wv es) : ∃ ao c ao' c', ov = .slice ao es.length c ∧ wv = .slice ao' es.length c' := by
  obtain ⟨ao, c, e⟩ := owns_form h.orow
  obtain ⟨ao', c', e'⟩ := owns_form h.wrow
  exact ⟨ao, c, ao', c', e, e'⟩

/-- Lists that are alike; nothing is written. -/
theorem same_q {w : World} {s t : Value} {l : List UInt8} (hs : Reads w s l) (ht : Reads w t l) (hlen : l.length ≤ 140737488355328) :
    Calls Try.prog 27 #[s, t] w fun e w' => e = .returned (.bool true) ∧ ∃ q, w' = w.drewN q :=
  (same_any hs ht hlen hlen).mono fun e w' ⟨h1, h2⟩ => ⟨by rw [h1, show alike l l = true from decide_eq_true rfl], h2⟩

set_option maxHeartbeats 1600000 in
set_option maxRecDepth 1000000 in
theorem holds_any {w : World} {S : Nat} {ov wv : Value} {es : List En} (h : ShBox w S ov wv es) (hr : ∀ e ∈ es, Reads w e.a e.la ∧ Reads w e.m e.lm ∧ e.la = e.lm ∧ e.la.length ≤ 140737488355328) (hlen : es.length ≤ 140737488355328) :
    Calls Try.prog 14 #[.pointer (some ⟨S, 0, none⟩)] w fun e w' => e = .returned (.bool true) ∧ ∃ q, w' = w.drewN q := by
  obtain ⟨ao, c, ao', c', eo, ew⟩ := h.forms
  have HB := hid h
  have HR := hid hr
  have c0 : w.cell? ⟨S, 0, none⟩ = some (.slice ao es.length c) := by rw [cell_at h.box, ← eo]; rfl
  have c1 : w.cell? ⟨S, 1, none⟩ = some (.slice ao' es.length c') := by rw [cell_at h.box, ← ew]; rfl
  clear h hr
  go_enter Try.func14, Try.ntmps14
  go_wp2
  go_loopw [3] (fun iv wr => ∃ (k q : Nat), k ≤ es.length ∧ iv = .int .i64 (k : Int) ∧ wr = w.drewN q) (fun iv _ => es.length - (intOf iv).toNat)
  case atStart => exact ⟨0, 0, by omega, rfl, rfl⟩
  case round =>
    obtain ⟨k, q, hk, rfl, rfl⟩ := hrel
    by_cases hlt : k < es.length
    · obtain ⟨e, he⟩ : ∃ e, es[k]? = some e := ⟨_, List.getElem?_eq_getElem hlt⟩
      obtain ⟨g, cc, g', cc', e1, e2, h1, h2⟩ := HB.out.at k e he
      rw [eo] at e1
      rw [ew] at e2
      simp only [Value.slice.injEq, true_and] at e1 e2
      obtain ⟨rfl, rfl⟩ := e1
      obtain ⟨rfl, rfl⟩ := e2
      have hre := HR.out e (List.mem_of_getElem? he)
      obtain ⟨ra, rm, rl, rb⟩ := hre
      rw [← rl] at rm
      obtain ⟨xa, ca, ha⟩ := ra.form
      obtain ⟨xm, cm, hm⟩ := rm.form
      rw [ha] at h1 ra
      rw [hm] at h2 rm
      have RA := hid ra
      have RM := hid rm
      have EO := hid eo
      have EW := hid ew
      clear ra rm he rl ha hm eo ew
      go_wp2
      go_region_with (go_at_call 27; refine (same_q (RA.out.drewN _) (RM.out.drewN _) rb).mono ?_; rintro e w1 ⟨rfl, q1, rfl⟩)
      all_goals go_wp2
      all_goals go_roundw
      all_goals first | exact ⟨k + 1, _, by omega, by go_num, rfl⟩ | (simp [intOf]; omega)
    · go_wp2
      go_ret
      exact ⟨rfl, q, rfl⟩

end Go.Proofs.Ytpfpamkbahgkpaa
