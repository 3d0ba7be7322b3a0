import Derived.Test.YtpfpamkbahgkpaaSpoil
namespace Go.Proofs.Ytpfpamkbahgkpaa
open Go.RowKit
set_option linter.unusedVariables false

/-- The shelf while it is written over. -/
structure SpA (w : World) (S : Nat) (ov wv : Value) (us ms : List Value) (cs : List Comp) (es : List En) : Prop where
  all : All (boxC S ov wv :: slC ov us :: slC wv ms :: (byRs es ++ cs)) w
  ea : es.map En.a = us
  em : es.map En.m = ms
  ok : ∀ e ∈ es, e.la = e.lm ∧ e.la.length ≤ 1099511627776

theorem SpA.rowA {w : World} {S : Nat} {ov wv : Value} {us ms : List Value} {cs : List Comp} {es : List En} (h : SpA w S ov wv us ms cs es) {e : En} (he : e ∈ es) : w.ownsRow 0 5 1 e.a e.la.length (cellsB e.la) ∧ w.ownsRow 0 5 1 e.m e.lm.length (cellsB e.lm) := by
  have hm := h.all.2.2.2.2.2.2
  refine ⟨(hm.mem (c := byR e.a e.la) ?_).2.1, (hm.mem (c := byR e.m e.lm) ?_).2.1⟩
  · exact List.mem_append.2 (Or.inl (List.mem_flatMap.2 ⟨e, he, by simp⟩))
  · exact List.mem_append.2 (Or.inl (List.mem_flatMap.2 ⟨e, he, by simp⟩))

theorem SpA.box {w : World} {S : Nat} {ov wv : Value} {us ms : List Value} {cs : List Comp} {es : List En} (h : SpA w S ov wv us ms cs es) : ShBox w S ov wv es := by
  have h1 : w.ownsRow 0 31 1 ov us.length us := h.all.2.2.1.2.1
  have h2 : w.ownsRow 0 31 1 wv ms.length ms := h.all.2.2.2.2.1.2.1
  refine ⟨h.all.1.2.1, ?_, ?_⟩
  · rw [h.ea]; rw [← h.ea, List.length_map] at h1; rw [h.ea] at h1; exact h1
  · rw [h.em]; rw [← h.em, List.length_map] at h2; rw [h.em] at h2; exact h2

theorem SpA.lens {w : World} {S : Nat} {ov wv : Value} {us ms : List Value} {cs : List Comp} {es : List En} (h : SpA w S ov wv us ms cs es) : us.length = es.length ∧ ms.length = es.length := by
  rw [← h.ea, ← h.em]; simp

/-- What one round reads and writes. -/
theorem SpA.round {w : World} {S : Nat} {ov wv : Value} {us ms : List Value} {cs : List Comp} {es : List En} (h : SpA w S ov wv us ms cs es) (i : Nat) (e : En) (hi : es[i]? = some e) (k : Nat) (hk : k < e.la.length) :
    ∃ g c g' c' go co gw cw, e.a = .slice (some ⟨g, 0, none⟩) e.la.length c ∧ e.m = .slice (some ⟨g', 0, none⟩) e.la.length c' ∧ ov = .slice (some ⟨go, 0, none⟩) es.length co ∧ wv = .slice (some ⟨gw, 0, none⟩) es.length cw ∧
      w.cell? ⟨S, 0, none⟩ = some ov ∧ w.cell? ⟨S, 1, none⟩ = some wv ∧ w.cell? ⟨go, i, none⟩ = some e.a ∧ w.cell? ⟨gw, i, none⟩ = some e.m ∧ (∃ u, w.cell? ⟨g, k, none⟩ = some u) ∧ (∃ u, w.cell? ⟨g', k, none⟩ = some u) ∧ w.frozen? ⟨g, k, none⟩ = false ∧ w.frozen? ⟨g', k, none⟩ = false ∧
      g ≠ S ∧ g ≠ gw ∧ g ≠ g' ∧
      ∀ x : UInt8, ∃ es2 e2, SpA ((w.setCell ⟨g, k, none⟩ (.int .u8 (x.toNat : Int))).setCell ⟨g', k, none⟩ (.int .u8 (x.toNat : Int))) S ov wv us ms cs es2 ∧ es2[i]? = some e2 ∧ e2.a = e.a ∧ e2.m = e.m ∧ e2.la.length = e.la.length := by
  have hmem := List.mem_of_getElem? hi
  obtain ⟨go, co, gw, cw, eo, ew, hoc, hwc⟩ := h.box.at i e hi
  obtain ⟨ra, rm⟩ := h.rowA hmem
  have hlm := (h.ok e hmem).1
  obtain ⟨hlt, hget⟩ := List.getElem?_eq_some_iff.1 hi
  have hsplit : es = es.take i ++ e :: es.drop (i + 1) := by
    rw [← hget]
    simp
  have hall := h.all
  have p : (boxC S ov wv :: slC ov us :: slC wv ms :: (byRs es ++ cs)).Perm (byR e.a e.la :: byR e.m e.lm :: boxC S ov wv :: slC ov us :: slC wv ms :: (byRs (es.take i ++ es.drop (i + 1)) ++ cs)) := by
    have p1 : (byRs es ++ cs).Perm (byR e.a e.la :: byR e.m e.lm :: (byRs (es.take i ++ es.drop (i + 1)) ++ cs)) := by
      have := byRs_split (es.take i) (es.drop (i + 1)) e cs
      rwa [← hsplit] at this
    have p2 := ((p1.cons (slC wv ms)).cons (slC ov us)).cons (boxC S ov wv)
    refine p2.trans ?_
    refine (List.perm_middle (a := byR e.a e.la) (l₁ := [boxC S ov wv, slC ov us, slC wv ms])).trans (List.Perm.cons _ ?_)
    exact List.perm_middle (a := byR e.m e.lm) (l₁ := [boxC S ov wv, slC ov us, slC wv ms])
  have A := hall.perm p
  have qa := fun g => World.ownsRow.cells ra (g := g)
  have qm := fun g => World.ownsRow.cells rm (g := g)
  rcases ra.2 with ⟨_, e0⟩ | ⟨g, c, _, ea, _⟩
  · omega
  rcases rm.2 with ⟨_, e0⟩ | ⟨g', c', _, em, _⟩
  · rw [← hlm] at e0; omega
  have hk' : k < e.lm.length := by rw [← hlm]; exact hk
  have d1 : g ≠ g' := fun x => A.2.1 (byR e.m e.lm) (by simp) g (by simp [byR, ea, Value.ownBlock]) (by simp [byR, em, Value.ownBlock, x])
  have d2 : g ≠ S := fun x => A.2.1 (boxC S ov wv) (by simp) g (by simp [byR, ea, Value.ownBlock]) (by simp [boxC, x])
  have d3 : g ≠ gw := fun x => A.2.1 (slC wv ms) (by simp) g (by simp [byR, ea, Value.ownBlock]) (by simp [slC, ew, Value.ownBlock, x])
  refine ⟨g, c, g', c', go, co, gw, cw, ea, by rw [hlm]; exact em, eo, ew, by rw [cell_at h.box.box]; rfl, by rw [cell_at h.box.box]; rfl, hoc, hwc, ?_, ?_, ?_, ?_, d2, d3, d1, ?_⟩
  · have := qa g (by rw [ea]; rfl) k (.int .u8 ((e.la[k]).toNat : Int)) (by simp [cellsB, hk])
    exact ⟨_, by simpa [Addr.add_lit] using this⟩
  · have := qm g' (by rw [em]; rfl) k (.int .u8 ((e.lm[k]).toNat : Int)) (by simp [cellsB, hk'])
    exact ⟨_, by simpa [Addr.add_lit] using this⟩
  · rw [ea] at ra; exact World.ownsRow.frozenAt ra k
  · rw [em] at rm; exact World.ownsRow.frozenAt rm k
  · intro x
    have A' := A
    rw [ea, em] at A'
    have A1 := (A'.byR_set (k := k) x rfl).swap
    have A2 := (A1.byR_set (k := k) x rfl).swap
    rw [← ea, ← em] at A2
    have hti : (es.take i).length = i := by simp; omega
    refine ⟨es.take i ++ ⟨e.a, e.m, e.la.set k x, e.lm.set k x⟩ :: es.drop (i + 1), ⟨e.a, e.m, e.la.set k x, e.lm.set k x⟩, ⟨?_, ?_, ?_, ?_⟩, by rw [List.getElem?_append_right (by omega), hti]; simp, rfl, rfl, by simp⟩
    · refine All.perm ?_ A2
      refine List.Perm.symm ?_
      have p1 := byRs_split (es.take i) (es.drop (i + 1)) ⟨e.a, e.m, e.la.set k x, e.lm.set k x⟩ cs
      have p2 := ((p1.cons (slC wv ms)).cons (slC ov us)).cons (boxC S ov wv)
      refine p2.trans ?_
      refine (List.perm_middle (a := byR e.a (e.la.set k x)) (l₁ := [boxC S ov wv, slC ov us, slC wv ms])).trans (List.Perm.cons _ ?_)
      exact List.perm_middle (a := byR e.m (e.lm.set k x)) (l₁ := [boxC S ov wv, slC ov us, slC wv ms])
    · have := h.ea
      rw [hsplit] at this
      simpa using this
    · have := h.em
      rw [hsplit] at this
      simpa using this
    · intro e' he'
      rcases List.mem_append.1 he' with h1 | h1
      · exact h.ok e' (List.mem_of_mem_take h1)
      · rcases List.mem_cons.1 h1 with rfl | h1
        · exact ⟨by simp [hlm], by simpa using (h.ok e hmem).2⟩
        · exact h.ok e' (List.mem_of_mem_drop h1)

end Go.Proofs.Ytpfpamkbahgkpaa
