import Derived.Test.YtdhkdniddjnigaaGreatDoorGm
import Derived.Test.YtdhkdniddjnigaaGreatDoorGa
import Derived.Test.YtdhkdniddjnigaaGreatDoorPx8a
import Derived.Test.YtdhkdniddjnigaaGreatDoorWrt
import Derived.Lib.AppendStr
namespace Go.Proofs.YtdhkdniddjnigaaGreatDoor
open Go.RowKit
set_option linter.unusedVariables false

/-- A wish's function: the client and what is asked are bound. -/
def Wi.fn (P : Nat) (w : Wi) : Value :=
  if w.ask then .func (.func 165) #[.agg #[ptr P, .int .i64 w.o.k, .string ⟨w.o.nm.toArray⟩, .string ⟨w.o.tx.toArray⟩, .int .i64 (w.o.n : Int), .int .i64 (w.o.m : Int), .int .i64 w.who]] #[]
  else .func (.func 163) #[.agg #[ptr P, .int .i64 w.o.k, .string ⟨w.o.nm.toArray⟩, .string ⟨w.o.tx.toArray⟩, .int .i64 (w.o.n : Int), .int .i64 (w.o.m : Int)]] #[]
def Wi.cells (P : Nat) (w : Wi) : List Value := [.int .i64 w.no, w.fn P]
theorem Wi.len (P : Nat) (w : Wi) : (w.cells P).length = 2 := rfl
theorem Wi.one (P : Nat) (w : Wi) : ∀ u ∈ w.cells P, u.oneCell' = true := by
  intro u hu
  simp only [Wi.cells, List.mem_cons, List.not_mem_nil, or_false] at hu
  rcases hu with rfl | rfl
  · rfl
  · unfold Wi.fn; split <;> rfl
/-- Wishes that wait. -/
abbrev wsC (P : Nat) (v : Value) (l : List Wi) : Comp := rowC 136 2 v l.length (l.flatMap (Wi.cells P))
/-- A gate's own cells. -/
def gtV (s : Gs) (P : Nat) (txv wsv tov : Value) : List Value := [.int .i64 s.no, txv, .bool s.long, ptr P, .int .i64 s.uw, wsv, tov]
def gtL (G P : Nat) (s : Gs) (tl : List UInt8) (b m : Int) (txv wsv tov : Value) : List Comp :=
  blkC G (gtV s P txv wsv tov) 79 :: ownC 5 txv (cellsB s.tx) :: ownC 5 tov (cellsB tl) :: wsC P wsv s.ws :: pxL P s.x b m s.n1 s.n2
/-- A gate as it stands. -/
def Gt (G P : Nat) (s : Gs) (tl : List UInt8) (b m : Int) (cs : List Comp) (w : World) : Prop := ∃ txv wsv tov, All (gtL G P s tl b m txv wsv tov ++ cs) w
theorem Gt.later {G P : Nat} {s : Gs} {tl : List UInt8} {b m : Int} {cs : List Comp} {w w' : World} (h : Gt G P s tl b m cs w) (hb : Below w.heap.size w w') : Gt G P s tl b m cs w' := by
  obtain ⟨t, u, v, h⟩ := h
  exact ⟨t, u, v, h.later hb⟩
theorem Gt.rest {G P : Nat} {s : Gs} {tl : List UInt8} {b m : Int} {cs : List Comp} {w : World} (h : Gt G P s tl b m cs w) : All cs w := by
  obtain ⟨t, u, v, h⟩ := h
  exact h.tail.tail.tail.tail.tail.tail.tail
/-- Other parts are put in another order, or new ones among them. -/
theorem Gt.perm {G P : Nat} {s : Gs} {tl : List UInt8} {b m : Int} {cs ds : List Comp} {w : World} (h : Gt G P s tl b m cs w) (hp : cs.Perm ds) : Gt G P s tl b m ds w := by
  obtain ⟨t, u, v, h⟩ := h
  exact ⟨t, u, v, h.perm (List.Perm.append_left _ hp)⟩
theorem Gt.drop {G P : Nat} {s : Gs} {tl : List UInt8} {b m : Int} {c : Comp} {cs : List Comp} {w : World} (h : Gt G P s tl b m (c :: cs) w) : Gt G P s tl b m cs w := by
  obtain ⟨t, u, v, h⟩ := h
  exact ⟨t, u, v, (h.perm List.perm_middle).tail⟩

/-- Bytes that are read are laid behind one's own. -/
theorem appB {W : World} {v : Value} {l p : List UInt8} {cs : List Comp} {ao2 : Option Addr} {n2 c2 : Nat} (A : All (ownC 5 v (cellsB l) :: cs) W) (h : Reads W (.slice ao2 n2 c2) p) (hl : l.length + p.length ≤ 140737488355328) :
    ∃ ao c w', (Builtin.append_ #[40, 40] 40 #[v, .slice ao2 n2 c2]).run Tryz.prog W = .ok (.slice ao (l.length + p.length) c) w' ∧ All (ownC 5 (.slice ao (l.length + p.length) c) (cellsB (l ++ p)) :: cs) w' := by
  obtain ⟨i1, hi1, hz0, hz1, hz2⟩ := info_parts Tryz.info5
  obtain ⟨ao3, c3, e, hc, hx⟩ := h
  simp only [Value.slice.injEq] at e
  obtain ⟨rfl, rfl, rfl⟩ := e
  obtain ⟨ao, c, w', hr, A2⟩ := appN (c := c2) (m := p.length) (news := cellsB p) Tryz.underlying40 hi1 hz0 hz1 hz2 rfl (by decide) (show All (rowC 5 1 v (cellsB l).length (cellsB l) :: cs) W from A) ao2 (by rw [cellsB_length]; omega)
    (fun h0 => by
      rcases hx with ⟨rfl, _⟩ | ⟨g, o, rfl, _, hcell⟩
      · simp at h0
      · exact ⟨⟨g, o, none⟩, rfl, fun j u hu => by rw [Addr.add_lit]; exact hcell j u hu⟩) (cellsB_one p) (by rw [cellsB_length]; unfold maxLen; omega) (by rw [cellsB_length]; omega)
  rw [cellsB_length] at hr A2
  refine ⟨ao, c, w', hr, ?_⟩
  have e2 : l.length + p.length = (cellsB (l ++ p)).length := by rw [cellsB_length, List.length_append]
  rw [cellsB_append]
  rw [cellsB_append] at e2
  unfold ownC
  have A3 := A2
  unfold rowC at A3
  rw [e2] at A3 ⊢
  exact A3
/-- A string's bytes are laid behind one's own. -/
theorem appStr {W : World} {v : Value} {l x : List UInt8} {cs : List Comp} (A : All (ownC 5 v (cellsB l) :: cs) W) (hl : l.length + x.length ≤ 140737488355328) :
    ∃ ao c w', (Builtin.append_ #[40, 9] 40 #[v, .string ⟨x.toArray⟩]).run Tryz.prog W = .ok (.slice ao (l.length + x.length) c) w' ∧ All (ownC 5 (.slice ao (l.length + x.length) c) (cellsB (l ++ x)) :: cs) w' := by
  obtain ⟨i1, hi1, hz0, hz1, hz2⟩ := info_parts Tryz.info5
  have hown : W.ownsRow 0 5 1 v (cellsB l).length (cellsB l) := A.1.2.1
  have hs : (⟨x.toArray⟩ : ByteArray).size = x.length := by simp [ByteArray.size]
  have hc : Lib.strCells ⟨x.toArray⟩ = cellsB x := by simp [Lib.strCells, cellsB]
  obtain ⟨v', w', hr, h2, h3, h4⟩ := Lib.run_append_own_string (P := Tryz.prog) W 0 40 9 40 5 i1 Tryz.underlying40 Tryz.underlying9 hi1 hz0 hz1 hz2 v (cellsB l).length (cellsB l) hown ⟨x.toArray⟩ (by rw [hs, cellsB_length]; unfold maxLen; omega) (by rw [hs, cellsB_length]; omega) (Nat.zero_le _)
  have hat : v'.ownBlock = v.ownBlock ∨ v'.ownBlock = some W.heap.size := by
    rcases hown.2 with ⟨rfl, h0⟩ | ⟨g, cap, cur, rfl, hbg, hg, hnc, hcm, hcs, htake⟩
    · by_cases hm : (⟨x.toArray⟩ : ByteArray).size = 0
      · rw [h4.2 ⟨rfl, hm⟩]; exact Or.inl rfl
      · have hr2 := run_append_nil_string (P := Tryz.prog) W 40 9 40 5 i1 (.int .u8 0) Tryz.underlying40 Tryz.underlying9 hi1 hz0 ⟨x.toArray⟩ (by omega) (by rw [hs]; omega) (by rw [hz2]; rw [hs]; omega)
        rw [hr2] at hr
        injection hr with e1 e2
        rw [← e1]
        exact Or.inr rfl
    · by_cases hroom : (cellsB l).length + (⟨x.toArray⟩ : ByteArray).size ≤ cap
      · have hr2 := Lib.run_append_room_string (P := Tryz.prog) W 40 9 40 5 i1 Tryz.underlying40 Tryz.underlying9 hi1 hz1 g (cellsB l).length cap cur hg ⟨x.toArray⟩ hroom (by omega)
        rw [hr2] at hr
        injection hr with e1 e2
        rw [← e1]
        exact Or.inl rfl
      · have holds : ∀ j u, (cellsB l)[j]? = some u → W.cell? ((⟨g, 0, none⟩ : Addr).add j) = some u := hown.cells (g := g) rfl
        have hr2 := Lib.run_append_grow_string (P := Tryz.prog) W 40 9 40 5 i1 (.int .u8 0) Tryz.underlying40 Tryz.underlying9 hi1 hz0 ⟨g, 0, none⟩ (cellsB l).length cap (cellsB l) (by rw [hz1]; simp) holds ⟨x.toArray⟩ (by omega) (by rw [hs, cellsB_length]; omega) (by rw [hz2]; exact growslice_fits (by rw [hs, cellsB_length] at *; omega) (by rw [hs, cellsB_length] at *; omega))
        rw [hr2] at hr
        injection hr with e1 e2
        rw [← e1]
        exact Or.inr rfl
  rw [hs, hc, cellsB_length] at h2
  obtain ⟨ao, c, rfl⟩ := owns_form h2
  refine ⟨ao, c, w', hr, ?_⟩
  rw [cellsB_append]
  refine A.ownGrow (base := 0) ?_ h3 hat
  rw [← cellsB_append, cellsB_length, List.length_append, cellsB_append]
  exact h2
end Go.Proofs.YtdhkdniddjnigaaGreatDoor
