import Derived.Shelf.Bytes.SlCut
import Derived.Test.YtdhkdniddjnigaaGreatDoorProg
import Derived.Test.YtdhkdniddjnigaaGreatDoorJ1
import Derived.Lib.IndexMore
import Derived.Lib.IndexLaws
import Derived.Test.YtdhkdniddjnigaaGreatDoorJ12
import Derived.Test.YtdhkdniddjnigaaGreatDoorJ5
import Derived.Lib.AppendStr
import Derived.Test.YtdhkdniddjnigaaGreatDoorJ7
import Derived.Test.YtdhkdniddjnigaaGreatDoorJ4
/-
  DERIVED: THE SHELF's CONTRACTS AT THIS DUMP, IN PLAIN WORDS (tools/lay-plain.mjs out of 'ScrCut.lean', which tools/lay-shelf.mjs wrote): THE SAME DECLARATIONS UNDER THE SAME NAMES: 'import', 'namespace', 'open', 'def', 'theorem' AND NOTHING ELSE: no command of the shelf's: FOR A HAND-IN. Each laying: the table of numbers ('.._ren') and one theorem, a field a fact of the dump's own or the kernel's comparison; each contract: ONE APPLICATION.
-/
namespace Go.Proofs
open Go.Shelf
def Tryz.laysT4_ren : Go.Shelf.Ren := ⟨fun | 4 => 31 | 5 => 52 | 6 => 81 | 7 => 82 | 8 => 83 | 9 => 84 | 10 => 85 | 11 => 119 | 12 => 120 | n => n, fun | 22 => 40 | 4 => 4 | 3 => 3 | 0 => 0 | 5 => 5 | 29 => 157 | 9 => 9 | 31 => 180 | 30 => 179 | n => n, fun | 0 => 0 | n => n⟩
theorem Tryz.laysT4 : Go.Proofs.SlLaysT.n4 Tryz.prog Tryz.laysT4_ren := {
  mixed := by kernel_rfl
  f4 := Tryz.func31.trans (congrArg some (by kernel_rfl))
  f5 := Tryz.func52.trans (congrArg some (by kernel_rfl))
  f6 := Tryz.func81.trans (congrArg some (by kernel_rfl))
  f7 := Tryz.func82.trans (congrArg some (by kernel_rfl))
  f8 := Tryz.func83.trans (congrArg some (by kernel_rfl))
  f9 := Tryz.func84.trans (congrArg some (by kernel_rfl))
  f10 := Tryz.func85.trans (congrArg some (by kernel_rfl))
  f11 := Tryz.func119.trans (congrArg some (by kernel_rfl))
  f12 := Tryz.func120.trans (congrArg some (by kernel_rfl))
  t0 := Tryz.underlying0
  a0 := Tryz.isAgg0
  z0 := Tryz.sizeOf0
  v0 := Tryz.zeroValue0
  t3 := Tryz.underlying3
  a3 := Tryz.isAgg3
  z3 := Tryz.sizeOf3
  v3 := Tryz.zeroValue3
  t4 := Tryz.underlying4
  a4 := Tryz.isAgg4
  z4 := Tryz.sizeOf4
  v4 := Tryz.zeroValue4
  t5 := Tryz.underlying5
  a5 := Tryz.isAgg5
  z5 := Tryz.sizeOf5
  v5 := Tryz.zeroValue5
  t9 := Tryz.underlying9
  a9 := Tryz.isAgg9
  z9 := Tryz.sizeOf9
  v9 := Tryz.zeroValue9
  t22 := Tryz.underlying40
  a22 := Tryz.isAgg40
  z22 := Tryz.sizeOf40
  v22 := Tryz.zeroValue40
  t29 := Tryz.underlying157
  a29 := Tryz.isAgg157
  z29 := Tryz.sizeOf157
  v29 := Tryz.zeroValue157
  t30 := Tryz.underlying179
  a30 := Tryz.isAgg179
  z30 := Tryz.sizeOf179
  v30 := Tryz.zeroValue179
  t31 := Tryz.underlying180
  a31 := Tryz.isAgg180
  z31 := Tryz.sizeOf180
  v31 := Tryz.zeroValue180
  g0 := by kernel_rfl }
end Go.Proofs

namespace Go.Proofs.YtdhkdniddjnigaaGreatDoor
open Go.RowKit
set_option linter.unusedVariables false

/-- Where a text has its first line feed. -/
def cutN : List UInt8 → Option Nat
  | [] => none
  | b :: l => if b = 10 then some 0 else (cutN l).map (· + 1)
theorem cutN_some {l : List UInt8} {i : Nat} (h : cutN l = some i) : i < l.length ∧ (10 : UInt8) ∉ l.take i ∧ l.drop i = 10 :: l.drop (i + 1) := by
  induction l generalizing i with
  | nil => simp [cutN] at h
  | cons b l ih =>
    unfold cutN at h
    split at h
    · rename_i hb
      simp only [Option.some.injEq] at h
      subst h
      subst hb
      simp
    · rename_i hb
      cases hc : cutN l with
      | none => rw [hc] at h; simp at h
      | some j =>
        rw [hc] at h
        simp only [Option.map_some, Option.some.injEq] at h
        subst h
        obtain ⟨h1, h2, h3⟩ := ih hc
        refine ⟨by simp only [List.length_cons]; omega, ?_, ?_⟩
        · rw [List.take_succ_cons, List.mem_cons]
          rintro (e | e)
          · exact hb e.symm
          · exact h2 e
        · rw [List.drop_succ_cons, List.drop_succ_cons]; exact h3
theorem cutN_none {l : List UInt8} (h : cutN l = none) : (10 : UInt8) ∉ l := by
  induction l with
  | nil => simp
  | cons b l ih =>
    unfold cutN at h
    split at h
    · simp at h
    · rename_i hb
      rw [List.mem_cons]
      rintro (e | e)
      · exact hb e.symm
      · cases hc : cutN l with
        | none => exact ih hc e
        | some j => rw [hc] at h; simp at h
theorem index_ten (l : List UInt8) : Lib.index l [10] = match cutN l with
    | some i => (i : Int)
    | none => -1 := by
  cases hc : cutN l with
  | some i =>
    obtain ⟨h1, h2, h3⟩ := cutN_some hc
    refine Lib.index_first (by omega) ?_ (fun j hj => ?_)
    · unfold Lib.occAt; rw [h3]; rfl
    · unfold Lib.occAt
      rw [List.drop_eq_getElem_cons (by omega)]
      have : l[j]'(by omega) ≠ 10 := fun e => h2 (by rw [← e]; exact List.mem_take_iff_getElem.2 ⟨j, by omega, rfl⟩)
      simp only [List.isPrefixOf, Bool.and_eq_false_iff, beq_eq_false_iff_ne]
      exact Or.inl (fun e => this e.symm)
  | none =>
    have h := cutN_none hc
    refine Lib.index_none (fun j hj => ?_)
    unfold Lib.occAt
    by_cases hj2 : j < l.length
    · rw [List.drop_eq_getElem_cons hj2]
      have : l[j] ≠ 10 := fun e => h (by rw [← e]; exact List.getElem_mem hj2)
      simp only [List.isPrefixOf, Bool.and_eq_false_iff, beq_eq_false_iff_ne]
      exact Or.inl (fun e => this e.symm)
    · rw [List.drop_eq_nil_of_le (by omega)]; rfl
/-- What bytes.Cut tells of a text at its first line feed. -/
def cutP (l : List UInt8) : List UInt8 := match cutN l with
  | some i => l.take i
  | none => l
def cutR (l : List UInt8) : List UInt8 := match cutN l with
  | some i => l.drop (i + 1)
  | none => []
def cutF (l : List UInt8) : Bool := (cutN l).isSome

theorem Reads.up {w : World} {ao : Option Addr} {n c : Nat} {l : List UInt8} (h : Reads w (.slice ao n c) l) {i : Nat} (hi : i ≤ l.length) : Reads w (.slice ao i c) (l.take i) := by
  obtain ⟨ao', c', e, hc, hcase⟩ := h
  simp only [Value.slice.injEq] at e
  obtain ⟨rfl, rfl, rfl⟩ := e
  refine ⟨ao, c, by rw [List.length_take, Nat.min_eq_left hi], by rw [List.length_take]; omega, ?_⟩
  rcases hcase with ⟨rfl, h1⟩ | ⟨g, o, rfl, hg, hcell⟩
  · exact Or.inl ⟨by simp, h1⟩
  · refine Or.inr ⟨g, o, rfl, hg, fun j u hu => hcell j u ?_⟩
    unfold cellsB at hu ⊢
    rw [List.map_take, List.getElem?_take] at hu
    split at hu
    · exact hu
    · simp at hu
theorem Reads.from {w : World} {ao : Option Addr} {n c : Nat} {l : List UInt8} (h : Reads w (.slice ao n c) l) {j : Nat} (hj : j ≤ l.length) : Reads w (Lib.fromV ao n c j) (l.drop j) := by
  obtain ⟨ao', c', e, hc, hcase⟩ := h
  simp only [Value.slice.injEq] at e
  obtain ⟨rfl, rfl, rfl⟩ := e
  unfold Lib.fromV
  refine ⟨_, c - j, by rw [List.length_drop], by rw [List.length_drop]; omega, ?_⟩
  rcases hcase with ⟨rfl, h1⟩ | ⟨g, o, rfl, hg, hcell⟩
  · refine Or.inl ⟨by simp, fun e => ?_⟩
    have hj0 : j = 0 := by simpa using hj
    subst hj0
    by_cases h0 : c = 0
    · omega
    · rw [if_neg (by omega)] at e
      cases ao with
      | none => have := h1 rfl; omega
      | some a => simp at e
  · by_cases h0 : c = j
    · exact Or.inl ⟨List.drop_eq_nil_of_le (by omega), fun e => by rw [if_pos h0] at e; simp at e⟩
    · refine Or.inr ⟨g, o + j, by rw [if_neg h0, Option.map_some, Addr.add_lit], hg, fun i u hu => ?_⟩
      unfold cellsB at hu hcell
      rw [List.map_drop, List.getElem?_drop] at hu
      have := hcell (j + i) u hu
      rw [← Nat.add_assoc] at this
      exact this
/-- bytes.Cut at a line feed. -/
theorem cut_any {v : Value} {l : List UInt8} {w : World} {b c2 : Nat} {m : Int} (h : Reads w v l) (hl : l.length < 4294967281) (hs : w.cell? ⟨b, 0, none⟩ = some (.int .u8 10)) (hm : w.cell? ⟨0, 0, none⟩ = some (.int .i64 m)) :
    Calls Tryz.prog 31 #[v, .slice (some ⟨b, 0, none⟩) 1 c2] w fun e w' => ∃ p r, e = .returned (.tuple #[p, r, .bool (cutF l)]) ∧ (∀ W, Reads W v l → Reads W p (cutP l) ∧ Reads W r (cutR l)) ∧ ∃ q, w' = w.drewN q := by
  obtain ⟨ao, c, rfl⟩ := h.form
  have hB : Lib.bytesOf (l.map fun x => (x.toNat : Int)) = l := by
    unfold Lib.bytesOf
    rw [List.map_map]
    conv => rhs; rw [← List.map_id l]
    exact List.map_congr_left fun x _ => by simp
  have key := Any.bytes_Cut_all Tryz.laysT4 ao (some ⟨b, 0, none⟩) l.length c 1 c2 (l.map fun x => (x.toNat : Int)) [10] m w (by simp) rfl (fun x hx => by obtain ⟨y, _, rfl⟩ := List.mem_map.1 hx; have := y.toNat_lt; omega) (by simp) ?_ ?_ ?_ ?_ hl (by omega) hm
  · change Calls Tryz.prog 31 _ _ _ at key
    refine key.mono ?_
    rintro e w' ⟨rfl, q, rfl⟩
    rw [hB, show Lib.bytesOf [10] = [10] from rfl, index_ten]
    cases hc : cutN l with
    | some i =>
      obtain ⟨h1, h2, h3⟩ := cutN_some hc
      unfold Lib.cutV
      rw [if_pos (by show (0 : Int) ≤ (i : Int); omega)]
      refine ⟨_, _, by unfold cutF; rw [hc]; rfl, fun W hW => ⟨?_, ?_⟩, q, rfl⟩
      · unfold cutP; rw [hc]; exact hW.up (i := i) (by omega)
      · unfold cutR; rw [hc]; exact hW.from (j := i + 1) (by omega)
    | none =>
      unfold Lib.cutV
      rw [if_neg (by show ¬ (0 : Int) ≤ -1; omega)]
      refine ⟨_, _, by unfold cutF; rw [hc]; rfl, fun W hW => ⟨?_, ?_⟩, q, rfl⟩
      · unfold cutP; rw [hc]; exact hW
      · unfold cutR; rw [hc]; exact Reads.nil W
  · obtain ⟨ao', c', e, hcc, hcase⟩ := h
    simp only [Value.slice.injEq] at e
    obtain ⟨rfl, -, rfl⟩ := e
    rcases hcase with ⟨rfl, h1⟩ | ⟨g, o, rfl, hg, hcell⟩
    · exact Lib.BytesIn.nil w ao _
    · refine Lib.BytesIn.of_cells (a := ⟨g, o, none⟩) (fun i hi => ?_)
      rw [Addr.add_lit]
      refine hcell i _ ?_
      simp [cellsB, List.getD, hi]
  · refine Lib.BytesIn.of_cells (a := ⟨b, 0, none⟩) (fun i hi => ?_)
    obtain rfl : i = 0 := by omega
    exact hs
  · intro e
    subst e
    obtain ⟨ao', c', e, hcc, hcase⟩ := h
    simp only [Value.slice.injEq] at e
    obtain ⟨rfl, -, rfl⟩ := e
    rcases hcase with ⟨rfl, h1⟩ | ⟨g, o, e, _⟩
    · exact h1 rfl
    · cases e
  · obtain ⟨ao', c', e, hcc, hcase⟩ := h
    simp only [Value.slice.injEq] at e
    omega
end Go.Proofs.YtdhkdniddjnigaaGreatDoor

namespace Go.Proofs.YtdhkdniddjnigaaGreatDoor
open Go.RowKit
set_option linter.unusedVariables false

/-- A wish's function: the client and what is asked are bound. -/
def Wi.fn (P : Nat) (w : Wi) : Value :=
  if w.ask then .func (.func 165) #[.agg #[ptr P, .int .i64 w.o.k, .string ⟨w.o.nm.toArray⟩, .string ⟨w.o.tx.toArray⟩, .int .i64 (w.o.n : Int), .int .i64 (w.o.m : Int), .int .i64 w.who]] #[]
  else .func (.func 163) #[.agg #[ptr P, .int .i64 w.o.k, .string ⟨w.o.nm.toArray⟩, .string ⟨w.o.tx.toArray⟩, .int .i64 (w.o.n : Int), .int .i64 (w.o.m : Int)]] #[]
def Wi.cells (P : Nat) (w : Wi) : List Value := [.int .i64 w.no, w.fn P]
theorem Wi.len (P : Nat) (w : Wi) : (w.cells P).length = 2 := rfl
theorem Wi.one (P : Nat) (w : Wi) : ∀ u ∈ w.cells P, u.oneCell' = true := by
  intro u hu
  simp only [Wi.cells, List.mem_cons, List.not_mem_nil, or_false] at hu
  rcases hu with rfl | rfl
  · rfl
  · unfold Wi.fn; split <;> rfl
/-- Wishes that wait. -/
abbrev wsC (P : Nat) (v : Value) (l : List Wi) : Comp := rowC 136 2 v l.length (l.flatMap (Wi.cells P))
/-- A gate's own cells. -/
def gtV (s : Gs) (P : Nat) (txv wsv tov : Value) : List Value := [.int .i64 s.no, txv, .bool s.long, ptr P, .int .i64 s.uw, wsv, tov]
def gtL (G P : Nat) (s : Gs) (tl : List UInt8) (b m : Int) (txv wsv tov : Value) : List Comp :=
  blkC G (gtV s P txv wsv tov) 79 :: ownC 5 txv (cellsB s.tx) :: ownC 5 tov (cellsB tl) :: wsC P wsv s.ws :: pxL P s.x b m s.n1 s.n2
/-- A gate as it stands. -/
def Gt (G P : Nat) (s : Gs) (tl : List UInt8) (b m : Int) (cs : List Comp) (w : World) : Prop := ∃ txv wsv tov, All (gtL G P s tl b m txv wsv tov ++ cs) w
theorem Gt.later {G P : Nat} {s : Gs} {tl : List UInt8} {b m : Int} {cs : List Comp} {w w' : World} (h : Gt G P s tl b m cs w) (hb : Below w.heap.size w w') : Gt G P s tl b m cs w' := by
  obtain ⟨t, u, v, h⟩ := h
  exact ⟨t, u, v, h.later hb⟩
theorem Gt.rest {G P : Nat} {s : Gs} {tl : List UInt8} {b m : Int} {cs : List Comp} {w : World} (h : Gt G P s tl b m cs w) : All cs w := by
  obtain ⟨t, u, v, h⟩ := h
  exact h.tail.tail.tail.tail.tail.tail.tail
/-- Other parts are put in another order, or new ones among them. -/
theorem Gt.perm {G P : Nat} {s : Gs} {tl : List UInt8} {b m : Int} {cs ds : List Comp} {w : World} (h : Gt G P s tl b m cs w) (hp : cs.Perm ds) : Gt G P s tl b m ds w := by
  obtain ⟨t, u, v, h⟩ := h
  exact ⟨t, u, v, h.perm (List.Perm.append_left _ hp)⟩
theorem Gt.drop {G P : Nat} {s : Gs} {tl : List UInt8} {b m : Int} {c : Comp} {cs : List Comp} {w : World} (h : Gt G P s tl b m (c :: cs) w) : Gt G P s tl b m cs w := by
  obtain ⟨t, u, v, h⟩ := h
  exact ⟨t, u, v, (h.perm List.perm_middle).tail⟩

/-- Bytes that are read are laid behind one's own. -/
theorem appB {W : World} {v : Value} {l p : List UInt8} {cs : List Comp} {ao2 : Option Addr} {n2 c2 : Nat} (A : All (ownC 5 v (cellsB l) :: cs) W) (h : Reads W (.slice ao2 n2 c2) p) (hl : l.length + p.length ≤ 140737488355328) :
    ∃ ao c w', (Builtin.append_ #[40, 40] 40 #[v, .slice ao2 n2 c2]).run Tryz.prog W = .ok (.slice ao (l.length + p.length) c) w' ∧ All (ownC 5 (.slice ao (l.length + p.length) c) (cellsB (l ++ p)) :: cs) w' := by
  obtain ⟨i1, hi1, hz0, hz1, hz2⟩ := info_parts Tryz.info5
  obtain ⟨ao3, c3, e, hc, hx⟩ := h
  simp only [Value.slice.injEq] at e
  obtain ⟨rfl, rfl, rfl⟩ := e
  obtain ⟨ao, c, w', hr, A2⟩ := appN (c := c2) (m := p.length) (news := cellsB p) Tryz.underlying40 hi1 hz0 hz1 hz2 rfl (by decide) (show All (rowC 5 1 v (cellsB l).length (cellsB l) :: cs) W from A) ao2 (by rw [cellsB_length]; omega)
    (fun h0 => by
      rcases hx with ⟨rfl, _⟩ | ⟨g, o, rfl, _, hcell⟩
      · simp at h0
      · exact ⟨⟨g, o, none⟩, rfl, fun j u hu => by rw [Addr.add_lit]; exact hcell j u hu⟩) (cellsB_one p) (by rw [cellsB_length]; unfold maxLen; omega) (by rw [cellsB_length]; omega)
  rw [cellsB_length] at hr A2
  refine ⟨ao, c, w', hr, ?_⟩
  have e2 : l.length + p.length = (cellsB (l ++ p)).length := by rw [cellsB_length, List.length_append]
  rw [cellsB_append]
  rw [cellsB_append] at e2
  unfold ownC
  have A3 := A2
  unfold rowC at A3
  rw [e2] at A3 ⊢
  exact A3
/-- A string's bytes are laid behind one's own. -/
theorem appStr {W : World} {v : Value} {l x : List UInt8} {cs : List Comp} (A : All (ownC 5 v (cellsB l) :: cs) W) (hl : l.length + x.length ≤ 140737488355328) :
    ∃ ao c w', (Builtin.append_ #[40, 9] 40 #[v, .string ⟨x.toArray⟩]).run Tryz.prog W = .ok (.slice ao (l.length + x.length) c) w' ∧ All (ownC 5 (.slice ao (l.length + x.length) c) (cellsB (l ++ x)) :: cs) w' := by
  obtain ⟨i1, hi1, hz0, hz1, hz2⟩ := info_parts Tryz.info5
  have hown : W.ownsRow 0 5 1 v (cellsB l).length (cellsB l) := A.1.2.1
  have hs : (⟨x.toArray⟩ : ByteArray).size = x.length := by simp [ByteArray.size]
  have hc : Lib.strCells ⟨x.toArray⟩ = cellsB x := by simp [Lib.strCells, cellsB]
  obtain ⟨v', w', hr, h2, h3, h4⟩ := Lib.run_append_own_string (P := Tryz.prog) W 0 40 9 40 5 i1 Tryz.underlying40 Tryz.underlying9 hi1 hz0 hz1 hz2 v (cellsB l).length (cellsB l) hown ⟨x.toArray⟩ (by rw [hs, cellsB_length]; unfold maxLen; omega) (by rw [hs, cellsB_length]; omega) (Nat.zero_le _)
  have hat : v'.ownBlock = v.ownBlock ∨ v'.ownBlock = some W.heap.size := by
    rcases hown.2 with ⟨rfl, h0⟩ | ⟨g, cap, cur, rfl, hbg, hg, hnc, hcm, hcs, htake⟩
    · by_cases hm : (⟨x.toArray⟩ : ByteArray).size = 0
      · rw [h4.2 ⟨rfl, hm⟩]; exact Or.inl rfl
      · have hr2 := run_append_nil_string (P := Tryz.prog) W 40 9 40 5 i1 (.int .u8 0) Tryz.underlying40 Tryz.underlying9 hi1 hz0 ⟨x.toArray⟩ (by omega) (by rw [hs]; omega) (by rw [hz2]; rw [hs]; omega)
        rw [hr2] at hr
        injection hr with e1 e2
        rw [← e1]
        exact Or.inr rfl
    · by_cases hroom : (cellsB l).length + (⟨x.toArray⟩ : ByteArray).size ≤ cap
      · have hr2 := Lib.run_append_room_string (P := Tryz.prog) W 40 9 40 5 i1 Tryz.underlying40 Tryz.underlying9 hi1 hz1 g (cellsB l).length cap cur hg ⟨x.toArray⟩ hroom (by omega)
        rw [hr2] at hr
        injection hr with e1 e2
        rw [← e1]
        exact Or.inl rfl
      · have holds : ∀ j u, (cellsB l)[j]? = some u → W.cell? ((⟨g, 0, none⟩ : Addr).add j) = some u := hown.cells (g := g) rfl
        have hr2 := Lib.run_append_grow_string (P := Tryz.prog) W 40 9 40 5 i1 (.int .u8 0) Tryz.underlying40 Tryz.underlying9 hi1 hz0 ⟨g, 0, none⟩ (cellsB l).length cap (cellsB l) (by rw [hz1]; simp) holds ⟨x.toArray⟩ (by omega) (by rw [hs, cellsB_length]; omega) (by rw [hz2]; exact growslice_fits (by rw [hs, cellsB_length] at *; omega) (by rw [hs, cellsB_length] at *; omega))
        rw [hr2] at hr
        injection hr with e1 e2
        rw [← e1]
        exact Or.inr rfl
  rw [hs, hc, cellsB_length] at h2
  obtain ⟨ao, c, rfl⟩ := owns_form h2
  refine ⟨ao, c, w', hr, ?_⟩
  rw [cellsB_append]
  refine A.ownGrow (base := 0) ?_ h3 hat
  rw [← cellsB_append, cellsB_length, List.length_append, cellsB_append]
  exact h2
end Go.Proofs.YtdhkdniddjnigaaGreatDoor

namespace Go.Proofs.YtdhkdniddjnigaaGreatDoor
open Go.RowKit
set_option linter.unusedVariables false

set_option maxHeartbeats 1600000 in
set_option maxRecDepth 1000000 in
/-- A line is told. -/
theorem tell_any {G : Nat} {a0 a1 a2 a3 a4 a5 tov : Value} {tl : List UInt8} {no : Int} {v : Value} {l : Ws} {cs : List Comp} {w : World} (A : All (blkC G [a0, a1, a2, a3, a4, a5, tov] 79 :: ownC 5 tov (cellsB tl) :: cs) w) (hV : ∀ W, All cs W → Vars W) (hR : ∀ W, All cs W → Rt W v l) (h0 : 0 ≤ no) (h1 : no ≤ 4611686018427387904) (hl : l.length ≤ 1000) (hJ : lenJ (Lib.itoa no :: l) ≤ 100000000) (hJ2 : (joinW (Lib.itoa no :: l)).length ≤ 1000000000) (ht : tl.length ≤ 100000000000000) :
    Calls Tryz.prog 62 #[.pointer (some ⟨G, 3, none⟩), .int .i64 no, v] w fun e w' => e = .returned (.tuple #[]) ∧ ∃ tov', All (blkC G [a0, a1, a2, a3, a4, a5, tov'] 79 :: ownC 5 tov' (cellsB (tl ++ lnB no l)) :: cs) w' := by
  obtain ⟨ao, c, rfl⟩ := (hR _ A.tail.tail).form
  obtain ⟨aot, ct, rfl⟩ := owns_form A.tail.1.2.1
  rw [cellsB_length] at A
  have C61 := hid (Itoa_any (hV w A.tail.tail) h0 (by omega))
  have HR := hid hR
  have HJ := hid hJ
  have HJ2 := hid hJ2
  have HL := hid hl
  have HT := hid ht
  have A0 := hid A
  unfold lnB
  clear hR hJ hl hV A ht hJ2
  generalize hX : Lib.itoa no = X at *
  clear hX h0 h1
  obtain ⟨J, hJe⟩ : ∃ J, Hid (J = joinW (X :: l)) := ⟨_, hid rfl⟩
  rw [← hJe.out]
  go_enter Tryz.func62, Tryz.ntmps62
  go_wp2_with fail
  refine C61.out.mono ?_
  rintro e w1 ⟨rfl, B1⟩
  have A1 := hid (A0.out.later B1)
  clear B1 A0 C61
  obtain ⟨ao1, c1, w2, hr, A2⟩ := appR (own_new A1.out [X] (by simp)) ((HR.out _ A1.out.tail.tail).later (ba _ _)) (by have := HL.out; simp only [List.length_cons, List.length_nil]; omega)
  have R : Hid ((Builtin.append_ #[43, 43] 43 #[.slice (some ⟨w1.heap.size, 0, none⟩) 1 1, .slice ao l.length c]).run Tryz.prog (w1.alloc (.cells #[.string ⟨X.toArray⟩] 9)) = .ok (.slice ao1 (1 + l.length) c1) w2) := hid hr
  have A2 : Hid (All (ownC 9 (.slice ao1 (1 + l.length) c1) (txW (X :: l)) :: blkC G [a0, a1, a2, a3, a4, a5, .slice aot tl.length ct] 79 :: ownC 5 (.slice aot tl.length ct) (cellsB tl) :: cs) w2) := hid A2
  have JC := hid (Join_any (w := w2) (rt_own A2.out) (by have := HL.out; simp only [List.length_cons]; omega) (by have := HJ.out; omega))
  rw [← hJe.out] at JC
  have HJ3 : Hid (J.length ≤ 1000000000) := hid (by rw [hJe.out]; exact HJ2.out)
  clear hr A1 HR hJe HJ2 HJ
  generalize l.length = n at *
  go_upto_region 1 with (first | (at_builtin; refine wpList_append_run rfl _ _ 43 rfl _ _ _ _ rfl rfl R.out ?_) | (go_at_call 101; refine JC.out.mono ?_; rintro e w3 ⟨rfl, B3⟩; have A3 := hid (A2.out.later B3).tail))
  have c6 : w3.cell? ⟨G, 6, none⟩ = some (.slice aot tl.length ct) := by rw [cell_at A3.out.1.2.1]; rfl
  clear JC A2 R B3
  obtain ⟨ao4, c4, w4, hr4, A4⟩ := appStr (x := J) A3.out.swap (by have := HT.out; have := HJ3.out; omega)
  have R4 := hid hr4
  have A5 := A4.alloc (.cells #[.int .u8 10] 5)
  obtain ⟨ao5, c5, w5, hr5, A6⟩ := appB (p := [10]) (ao2 := some ⟨w4.heap.size, 0, none⟩) (n2 := 1) (c2 := 1) A5 ⟨_, 1, rfl, by simp, Or.inr ⟨_, 0, rfl, by simp, fun j u hu => by
    rw [Nat.zero_add, cell_at (heap_alloc_new w4 _)]
    simpa [cellsB] using hu⟩⟩ (by have := HT.out; have := HJ3.out; rw [List.length_append]; simp only [List.length_cons, List.length_nil]; omega)
  have R5 := hid hr5
  have f6 := free_at A6.swap.1.2.1 6
  have c6' : w5.cell? ⟨G, 6, none⟩ = some (.slice aot tl.length ct) := by rw [cell_at A6.swap.1.2.1]; rfl
  have A7 := hid (A6.swap.setBlk 6 (.slice ao5 ((tl ++ J).length + [10].length) c5))
  have e7 : tl ++ J ++ [10] = tl ++ (J ++ [10]) := List.append_assoc _ _ _
  rw [e7] at A7
  clear hr4 hr5 A3 A4 A5 A6 HT HJ3 HL e7
  generalize (tl ++ J).length + [10].length = n5 at *
  generalize (tl ++ J).length = n4 at *
  go_wp2_with (first | (at_builtin; refine wpList_append_run2 rfl _ _ 40 9 rfl _ _ _ _ rfl rfl R4.out ?_) | (at_builtin; refine wpList_append_run rfl _ _ 40 rfl _ _ _ _ rfl rfl R5.out ?_))
  go_end0
  exact ⟨rfl, _, A7.out⟩
end Go.Proofs.YtdhkdniddjnigaaGreatDoor

namespace Go.Proofs.YtdhkdniddjnigaaGreatDoor
open Go.RowKit
set_option linter.unusedVariables false

theorem joinW_le (l : Ws) : (joinW l).length ≤ lenJ l := by
  have := joinW_len l l.length (Nat.le_refl _)
  rwa [List.take_length] at this
theorem itoa_len {v : Int} (h0 : 0 ≤ v) (h1 : v ≤ 9223372036854775807) : (Lib.itoa v).length ≤ 19 := by
  obtain ⟨n, rfl⟩ := Int.eq_ofNat_of_zero_le h0
  unfold Lib.itoa
  rw [if_neg (by omega)]
  exact digits_short (by omega)
theorem perm3 {α : Type} (a b c : α) (cs : List α) : (a :: b :: c :: cs).Perm (b :: c :: a :: cs) :=
  (List.Perm.swap _ _ _).trans (List.Perm.cons _ (List.Perm.swap _ _ _))

set_option maxHeartbeats 800000 in
set_option maxRecDepth 1000000 in
/-- A line is refused. -/
theorem refuse_any {G : Nat} {a0 a1 a2 a3 a4 a5 tov : Value} {tl : List UInt8} {no er : Int} {cs : List Comp} {w : World} (A : All (blkC G [a0, a1, a2, a3, a4, a5, tov] 79 :: ownC 5 tov (cellsB tl) :: cs) w) (hV : ∀ W, All cs W → Vars W) (h0 : 0 ≤ no) (h1 : no ≤ 4611686018427387904) (e0 : 0 ≤ er) (e1 : er ≤ 4611686018427387904) (ht : tl.length ≤ 100000000000000) :
    Calls Tryz.prog 54 #[.pointer (some ⟨G, 3, none⟩), .int .i64 no, .int .i64 er] w fun e w' => e = .returned (.tuple #[]) ∧ ∃ tov', All (blkC G [a0, a1, a2, a3, a4, a5, tov'] 79 :: ownC 5 tov' (cellsB (tl ++ refL no er)) :: cs) w' := by
  have C61 := hid (Itoa_any (hV w A.tail.tail) e0 (by omega))
  have n1 := itoa_len h0 (by omega)
  have n2 := itoa_len e0 (by omega)
  have hJ : lenJ (Lib.itoa no :: [refuB, Lib.itoa er]) ≤ 100000000 := by
    unfold lenJ
    simp only [List.map_cons, List.map_nil, List.sum_cons, List.sum_nil, refuB, List.length_cons, List.length_nil]
    omega
  have C62 : Hid (∀ W : World, All (ownC 9 (.slice (some ⟨W.heap.size, 0, none⟩) 2 2) (txW [refuB, Lib.itoa er]) :: blkC G [a0, a1, a2, a3, a4, a5, tov] 79 :: ownC 5 tov (cellsB tl) :: cs) (W.alloc (.cells (txW [refuB, Lib.itoa er]).toArray 9)) → Calls Tryz.prog 62 #[.pointer (some ⟨G, 3, none⟩), .int .i64 no, .slice (some ⟨W.heap.size, 0, none⟩) 2 2] (W.alloc (.cells (txW [refuB, Lib.itoa er]).toArray 9)) fun e w' => e = .returned (.tuple #[]) ∧ ∃ tov', All (blkC G [a0, a1, a2, a3, a4, a5, tov'] 79 :: ownC 5 tov' (cellsB (tl ++ refL no er)) :: cs) w') := hid (fun W hW => by
    refine (tell_any (l := [refuB, Lib.itoa er]) (hW.perm (perm3 _ _ _ _)) (fun W' h' => hV W' h'.tail) (fun W' h' => rt_own h') h0 h1 (by simp) hJ (Nat.le_trans (joinW_le _) (by omega)) ht).mono ?_
    rintro e w' ⟨rfl, tov', A'⟩
    exact ⟨rfl, tov', (A'.perm (perm3 _ _ _ _).symm).tail⟩)
  have A0 := hid A
  clear A hV hJ n1 n2 ht h0 h1 e0 e1
  have e9 : (txW [refuB, Lib.itoa er]).toArray = #[.string ⟨#[114, 101, 102, 117, 115, 101, 100]⟩, .string ⟨(Lib.itoa er).toArray⟩] := rfl
  have HO : Hid (∀ W : World, All (blkC G [a0, a1, a2, a3, a4, a5, tov] 79 :: ownC 5 tov (cellsB tl) :: cs) W → All (ownC 9 (.slice (some ⟨W.heap.size, 0, none⟩) 2 2) (txW [refuB, Lib.itoa er]) :: blkC G [a0, a1, a2, a3, a4, a5, tov] 79 :: ownC 5 tov (cellsB tl) :: cs) (W.alloc (.cells (txW [refuB, Lib.itoa er]).toArray 9))) := hid (fun W h => own_new h [refuB, Lib.itoa er] (by simp))
  generalize txW [refuB, Lib.itoa er] = TT at *
  rw [e9] at C62 HO
  clear e9
  generalize refL no er = RR at *
  generalize Lib.itoa er = X at *
  go_enter Tryz.func54, Tryz.ntmps54
  go_wp2_with (first | (go_at_call 61; refine C61.out.mono ?_; rintro e w1 ⟨rfl, B1⟩; have A1 := hid (A0.out.later B1); clear B1) | (go_at_call 62; refine (C62.out _ (HO.out _ A1.out)).mono ?_; rintro e w3 ⟨rfl, tov', B3⟩; have A3 := hid B3; clear B3))
  go_end0
  exact ⟨rfl, tov', A3.out⟩
/-- A line is refused. -/
theorem refuse_gt {G P : Nat} {s : Gs} {tl : List UInt8} {b m : Int} {cs : List Comp} {w : World} {no er : Int} (h : Gt G P s tl b m cs w) (hV : ∀ W, All cs W → Vars W) (h0 : 0 ≤ no) (h1 : no ≤ 4611686018427387904) (e0 : 0 ≤ er) (e1 : er ≤ 4611686018427387904) (ht : tl.length ≤ 100000000000000) :
    Calls Tryz.prog 54 #[.pointer (some ⟨G, 3, none⟩), .int .i64 no, .int .i64 er] w fun e w' => e = .returned (.tuple #[]) ∧ Gt G P s (tl ++ refL no er) b m cs w' := by
  obtain ⟨txv, wsv, tov, A⟩ := h
  refine (refuse_any (A.perm (List.Perm.cons _ (List.Perm.swap _ _ _))) (fun W hW => hV W (hW.tail.tail.tail.tail.tail)) h0 h1 e0 e1 ht).mono ?_
  rintro e w' ⟨rfl, tov', A'⟩
  exact ⟨rfl, txv, wsv, tov', A'.perm (List.Perm.cons _ (List.Perm.swap _ _ _))⟩
theorem Gt.cell {G P : Nat} {s : Gs} {tl : List UInt8} {b m : Int} {cs : List Comp} {w : World} {txv wsv tov : Value} (A : All (gtL G P s tl b m txv wsv tov ++ cs) w) (j : Nat) : w.cell? ⟨G, j, none⟩ = (gtV s P txv wsv tov)[j]? := by
  have := cell_at (w := w) A.1.2.1 j
  rw [this]
  simp
theorem Gt.free {G P : Nat} {s : Gs} {tl : List UInt8} {b m : Int} {cs : List Comp} {w : World} {txv wsv tov : Value} (A : All (gtL G P s tl b m txv wsv tov ++ cs) w) (j : Nat) : w.frozen? ⟨G, j, none⟩ = false := free_at A.1.2.1 j

set_option maxHeartbeats 800000 in
set_option maxRecDepth 1000000 in
/-- A piece is added to the line. -/
theorem add_gt {G P : Nat} {s : Gs} {tl : List UInt8} {b m : Int} {cs : List Comp} {w : World} {v : Value} {p : List UInt8} (h : Gt G P s tl b m cs w) (hs : s.ok) (hR : Reads w v p) (hp : p.length ≤ 100000000000000) :
    Calls Tryz.prog 32 #[.pointer (some ⟨G, 0, none⟩), v] w fun e w' => e = .returned (.tuple #[]) ∧ Gt G P (addM s p) tl b m cs w' := by
  obtain ⟨txv, wsv, tov, A⟩ := h
  obtain ⟨ao, c, rfl⟩ := hR.form
  obtain ⟨at_, ct, rfl⟩ := owns_form A.tail.1.2.1
  rw [cellsB_length] at A
  have c1 : w.cell? ⟨G, 1, none⟩ = some (.slice at_ s.tx.length ct) := Gt.cell A 1
  have c2 : w.cell? ⟨G, 2, none⟩ = some (.bool s.long) := Gt.cell A 2
  have f1 := Gt.free A 1
  have f2 := Gt.free A 2
  have h8 := hs.2
  have N : Hid (Gt G P { s with tx := [], long := true } tl b m cs ((w.setCell ⟨G, 1, none⟩ (.slice none 0 0)).setCell ⟨G, 2, none⟩ (.bool true))) := hid (by
    have A2 := ((A.setBlk 1 (.slice none 0 0)).setBlk 2 (.bool true)).swap.tail
    exact ⟨.slice none 0 0, wsv, tov, (All.addNil (e := 5) A2).swap⟩)
  have w8 : IntKind.i64.wrap (8192 - (s.tx.length : Int)) = 8192 - (s.tx.length : Int) := by rw [IntKind.wrap_i64]; omega
  by_cases h1 : s.long = true
  · have e1 : addM s p = { s with tx := [], long := true } := by unfold addM; rw [if_pos (Or.inl h1)]
    rw [e1]
    rw [h1] at c2
    clear A hs hR hp h8 h1 e1
    generalize s.tx.length = n at *
    go_enter Tryz.func32, Tryz.ntmps32
    go_wp2
    refine bodyPost_ret (results_none rfl _ _ _) rfl ?_
    exact ⟨rfl, N.out⟩
  · simp only [Bool.not_eq_true] at h1
    rw [h1] at c2
    by_cases h2 : 8192 < s.tx.length + p.length
    · have e1 : addM s p = { s with tx := [], long := true } := by unfold addM; rw [if_pos (Or.inr h2)]
      rw [e1]
      have h3 : (8192 - (s.tx.length : Int)) < (p.length : Int) := by omega
      clear A hs hR hp h8 h1 e1 h2
      generalize s.tx.length = n at *
      generalize p.length = k at *
      go_enter Tryz.func32, Tryz.ntmps32
      go_wp2
      refine bodyPost_ret (results_none rfl _ _ _) rfl ?_
      exact ⟨rfl, N.out⟩
    · have e1 : addM s p = { s with tx := s.tx ++ p } := by unfold addM; rw [if_neg (by rw [h1]; simp; omega)]
      rw [e1]
      have h3 : ¬ ((8192 - (s.tx.length : Int)) < (p.length : Int)) := by omega
      obtain ⟨ao5, c5, w5, hr5, A6⟩ := appB A.swap hR (by omega)
      have R5 := hid hr5
      have c1' : w5.cell? ⟨G, 1, none⟩ = some (.slice at_ s.tx.length ct) := by rw [cell_at A6.swap.1.2.1]; rfl
      have f1' := free_at A6.swap.1.2.1 1
      have A7 := hid (A6.swap.setBlk 1 (.slice ao5 (s.tx.length + p.length) c5))
      have N2 : Hid (Gt G P { s with tx := s.tx ++ p } tl b m cs (w5.setCell ⟨G, 1, none⟩ (.slice ao5 (s.tx.length + p.length) c5))) := hid ⟨_, wsv, tov, A7.out⟩
      clear A hs hR hp h8 h1 e1 h2 N A6 A7 hr5
      generalize s.tx.length + p.length = q at *
      generalize s.tx.length = n at *
      generalize p.length = k at *
      go_enter Tryz.func32, Tryz.ntmps32
      go_wp2_with (at_builtin; refine wpList_append_run rfl _ _ 40 rfl _ _ _ _ rfl rfl R5.out ?_)
      go_end0
      exact ⟨rfl, N2.out⟩
end Go.Proofs.YtdhkdniddjnigaaGreatDoor

namespace Go.Proofs.YtdhkdniddjnigaaGreatDoor
open Go.RowKit
set_option linter.unusedVariables false

/-- A line's words, or why it has none. -/
def wdsM (tx : List UInt8) (long : Bool) : Ws × Nat := if long then ([], 160) else ((splitW tx).ws, (splitW tx).err)
set_option maxRecDepth 1000000 in
theorem words_any {B : Nat} {v : Value} {tx : List UInt8} {long : Bool} {cs : List Comp} {w : World} (A : All cs w) (c1 : w.cell? ⟨B, 1, none⟩ = some v) (c2 : w.cell? ⟨B, 2, none⟩ = some (.bool long)) (hR : Reads w v tx) (hl : tx.length ≤ 140737488355328) :
    Calls Tryz.prog 86 #[.pointer (some ⟨B, 0, none⟩)] w fun e w' => ∃ v', e = .returned (.tuple #[v', .int .i64 ((wdsM tx long).2 : Int)]) ∧ All (ownC 9 v' (txW (wdsM tx long).1) :: cs) w' := by
  obtain ⟨ao, c, rfl⟩ := hR.form
  cases long with
  | true =>
    have A1 := hid (All.addNil (e := 9) A)
    clear A hR hl
    go_enter Tryz.func86, Tryz.ntmps86
    go_wp2
    go_ret2
    exact ⟨_, rfl, A1.out⟩
  | false =>
    have cv := conv_string hR
    have S := hid (Split_any A hl)
    unfold SplitPost at S
    have e1 : wdsM tx false = ((splitW tx).ws, (splitW tx).err) := rfl
    rw [e1]
    clear A hR hl e1
    generalize tx.length = n at *
    generalize ByteArray.mk tx.toArray = T at *
    generalize splitW tx = SS at *
    go_enter Tryz.func86, Tryz.ntmps86
    go_wp2_with (go_at_call 121; refine S.out.mono ?_; rintro e w1 ⟨v', rfl, A1⟩; have A1 := hid A1)
    go_ret2
    exact ⟨_, rfl, A1.out⟩

theorem ret_cell52 {fn : Func} (hf : fn.results = #[.cell 2 42, .tmp 3]) {R : Ending → World → Prop} {a : Act} {w : World} {b : Nat} {v0 v1 v2 v3 v4 k : Value} (ht : a.tmps.getD 2 undef = ptr b) (h3 : a.tmps.getD 3 undef = k) (hg : w.heap[b]? = some (.cells #[v0, v1, v2, v3, v4] 42 (0, 0))) (hd : a.defers = []) (hR : R (.returned (.tuple #[.agg #[v0, v1, v2, v3, v4], k])) w) : bodyPost Tryz.prog fn R .ret a w := by
  refine bodyPost_ret (v := .tuple #[.agg #[v0, v1, v2, v3, v4], k]) ?_ hd hR
  have hp : a.tmps[2]?.getD undef = ptr b := by rw [← ht]; simp
  have hp3 : a.tmps[3]?.getD undef = k := by rw [← h3]; simp
  simp [results, hf, hp, hp3, asAddr, run_loadVar_row w b 42 42 #[v0, v1, v2, v3, v4] (0, 0) _ hg Tryz.underlying42 rfl (by rw [Tryz.size27]; rfl)]
theorem set5c {B : Nat} {a b c d e v0 v1 v2 v3 v4 : Value} {cs : List Comp} {w : World} (A : All (blkC B [a, b, c, d, e] 42 :: cs) w) : All (blkC B [v0, v1, v2, v3, v4] 42 :: cs) (((((w.setCell ⟨B, 0, none⟩ v0).setCell ⟨B, 1, none⟩ v1).setCell ⟨B, 2, none⟩ v2).setCell ⟨B, 3, none⟩ v3).setCell ⟨B, 4, none⟩ v4) :=
  ((((A.setBlk 0 v0).setBlk 1 v1).setBlk 2 v2).setBlk 3 v3).setBlk 4 v4
def OpR.val (o : OpR) : Value := opV o.k ⟨o.nm.toArray⟩ ⟨o.tx.toArray⟩ (o.n : Int) (o.m : Int)

set_option maxHeartbeats 1600000 in
set_option maxRecDepth 1000000 in
theorem readOp_any {v : Value} {l : Ws} {cs : List Comp} {w : World} (A : All cs w) (hR : ∀ W, All cs W → Rt W v l) (hV : ∀ W, All cs W → Vars W) (hT : ∀ W, All cs W → Tab W) (hW : ∀ W, All cs W → Wf W) (hl : l.length ≤ 140737488355328) (hs : ∀ x ∈ l, x.length ≤ 140737488355328) :
    Calls Tryz.prog 162 #[v] w fun e w' => e = .returned (.tuple #[(opRd l).2.val, .int .i64 (opRd l).1]) ∧ All cs w' := by
  obtain ⟨ao, c, rfl⟩ := (hR w A).form
  have A0 := hid (A.addBlk [.int .i64 0, .string ⟨#[]⟩, .string ⟨#[]⟩, .int .i64 0, .int .i64 0] 42)
  obtain ⟨H, hH⟩ : ∃ H, Hid (H = w.heap.size) := ⟨_, hid rfl⟩
  rw [← hH.out] at A0
  have RO := hid (ReadOp_any A0.out (fun W h => hR W h.tail) (fun W h => hV W h.tail) (fun W h => hT W h.tail) (fun W h => hW W h.tail) hl hs)
  unfold ROPost at RO
  unfold opRd OpR.val
  clear A hR hV hT hW hs hl
  generalize readO l = r at *
  obtain ⟨⟨k, nm, tx, n, m⟩, q, er⟩ := r
  simp only at RO ⊢
  by_cases he : er ≠ 0
  · rw [if_pos he]
    generalize ByteArray.mk nm.toArray = NM at *
    generalize ByteArray.mk tx.toArray = TX at *
    have he' : (er != 0) = true := by simpa using he
    clear he
    generalize l.length = nl at *
    go_enter Tryz.func162, Tryz.ntmps162
    go_upto_region 1 with fail
    simp only [← hH.out]
    generalize w.alloc (.cells #[.int .i64 0, .string ⟨#[]⟩, .string ⟨#[]⟩, .int .i64 0, .int .i64 0] 42) = w1 at *
    go_wp2_with (go_at_call 190; refine RO.out.mono ?_; rintro e w2 ⟨rfl, A2⟩; have A3 := hid ((set5c (v0 := .int .i64 0) (v1 := .string ⟨#[]⟩) (v2 := .string ⟨#[]⟩) (v3 := .int .i64 0) (v4 := .int .i64 0) A2).alloc (.cells #[.int .i64 k, .string NM, .string TX, .int .i64 (n : Int), .int .i64 (m : Int)] 42)); obtain ⟨y0, y1, y2, y3, y4, ylt⟩ := blk5 A2 (.head _); obtain ⟨f0, f1, f2, f3, f4⟩ := blk5f A2; clear A2)
    exact ret_cell52 rfl rfl rfl A3.out.1.2.1 rfl ⟨rfl, A3.out.tail⟩
  · rw [if_neg he]
    have he0 : er = 0 := Classical.byContradiction he
    subst he0
    clear he
    by_cases hq : q < l.length
    · rw [if_pos hq]
      generalize ByteArray.mk nm.toArray = NM at *
      generalize ByteArray.mk tx.toArray = TX at *
      have hq' : (q : Int) < (l.length : Int) := by omega
      clear hq
      generalize l.length = nl at *
      go_enter Tryz.func162, Tryz.ntmps162
      go_upto_region 1 with fail
      simp only [← hH.out]
      generalize w.alloc (.cells #[.int .i64 0, .string ⟨#[]⟩, .string ⟨#[]⟩, .int .i64 0, .int .i64 0] 42) = w1 at *
      go_wp2_with (go_at_call 190; refine RO.out.mono ?_; rintro e w2 ⟨rfl, A2⟩; have A3 := hid ((set5c (v0 := .int .i64 0) (v1 := .string ⟨#[]⟩) (v2 := .string ⟨#[]⟩) (v3 := .int .i64 0) (v4 := .int .i64 0) A2).alloc (.cells #[.int .i64 k, .string NM, .string TX, .int .i64 (n : Int), .int .i64 (m : Int)] 42)); obtain ⟨y0, y1, y2, y3, y4, ylt⟩ := blk5 A2 (.head _); obtain ⟨f0, f1, f2, f3, f4⟩ := blk5f A2; clear A2)
      exact ret_cell52 rfl rfl rfl A3.out.1.2.1 rfl ⟨rfl, A3.out.tail⟩
    · rw [if_neg hq]
      dsimp only
      generalize ByteArray.mk nm.toArray = NM at *
      generalize ByteArray.mk tx.toArray = TX at *
      have hq' : ¬ (q : Int) < (l.length : Int) := by omega
      clear hq
      generalize l.length = nl at *
      go_enter Tryz.func162, Tryz.ntmps162
      go_upto_region 1 with fail
      simp only [← hH.out]
      generalize w.alloc (.cells #[.int .i64 0, .string ⟨#[]⟩, .string ⟨#[]⟩, .int .i64 0, .int .i64 0] 42) = w1 at *
      go_wp2_with (go_at_call 190; refine RO.out.mono ?_; rintro e w2 ⟨rfl, A2⟩; have A3 := hid ((set5c (v0 := .int .i64 k) (v1 := .string NM) (v2 := .string TX) (v3 := .int .i64 (n : Int)) (v4 := .int .i64 (m : Int)) A2).alloc (.cells #[.int .i64 k, .string NM, .string TX, .int .i64 (n : Int), .int .i64 (m : Int)] 42)); obtain ⟨y0, y1, y2, y3, y4, ylt⟩ := blk5 A2 (.head _); obtain ⟨f0, f1, f2, f3, f4⟩ := blk5f A2; clear A2)
      exact ret_cell52 rfl rfl rfl A3.out.1.2.1 rfl ⟨rfl, A3.out.tail⟩
end Go.Proofs.YtdhkdniddjnigaaGreatDoor

namespace Go.Proofs.YtdhkdniddjnigaaGreatDoor
open Go.RowKit
set_option linter.unusedVariables false

/-- What was read, as it is answered. -/
def rdG (P : Nat) : Rd → Value
  | .err e => .tuple #[.nilFunc, .int .i64 e]
  | .none => .tuple #[.nilFunc, .int .i64 0]
  | .wish a who o => .tuple #[(Wi.mk 0 a who o).fn P, .int .i64 0]

set_option maxHeartbeats 1600000 in
set_option maxRecDepth 1000000 in
theorem readRequest_any {P : Nat} {v : Value} {l : Ws} {cs : List Comp} {w : World} (A : All cs w) (hR : ∀ W, All cs W → Rt W v l) (hV : ∀ W, All cs W → Vars W) (hT : ∀ W, All cs W → Tab W) (hW : ∀ W, All cs W → Wf W) (hl : l.length ≤ 140737488355328) (hs : ∀ x ∈ l, x.length ≤ 140737488355328) :
    Calls Tryz.prog 122 #[.pointer (some ⟨P, 0, none⟩), v] w fun e w' => e = .returned (rdG P (reqR l)) ∧ All cs w' := by
  obtain ⟨ao, c, rfl⟩ := (hR w A).form
  have RO := hid (readOp_any A hR hV hT hW hl hs)
  unfold reqR
  clear A hR hV hT hW hs hl
  generalize opRd l = r at *
  obtain ⟨er, ⟨k, nm, tx, n, m⟩⟩ := r
  simp only [OpR.val] at RO ⊢
  by_cases he : er ≠ 0
  · rw [if_pos he]
    generalize ByteArray.mk nm.toArray = NM at *
    generalize ByteArray.mk tx.toArray = TX at *
    have he' : (er != 0) = true := by simpa using he
    clear he
    unfold rdG
    generalize l.length = nl at *
    go_enter Tryz.func122, Tryz.ntmps122
    go_wp2_with (go_at_call 162; refine RO.out.mono ?_; rintro e w2 ⟨rfl, A2⟩; have A3 := hid (A2.alloc (.cells #[.int .i64 k, .string NM, .string TX, .int .i64 (n : Int), .int .i64 (m : Int)] 42)); clear A2)
    go_ret2
    exact ⟨rfl, A3.out⟩
  · have he0 : er = 0 := Classical.byContradiction he
    subst he0
    rw [if_neg he]
    clear he
    unfold rdG Wi.fn
    dsimp only
    rw [if_neg (by decide)]
    generalize ByteArray.mk nm.toArray = NM at *
    generalize ByteArray.mk tx.toArray = TX at *
    generalize l.length = nl at *
    go_enter Tryz.func122, Tryz.ntmps122
    go_wp2_with (go_at_call 162; refine RO.out.mono ?_; rintro e w2 ⟨rfl, A2⟩; have A3 := hid (A2.alloc (.cells #[.int .i64 k, .string NM, .string TX, .int .i64 (n : Int), .int .i64 (m : Int)] 42)); clear A2)
    go_ret2
    exact ⟨rfl, A3.out⟩
theorem Rt.tl {w : World} {ao : Option Addr} {n c : Nat} {x : List UInt8} {l : Ws} (h : Rt w (.slice ao n c) (x :: l)) : Rt w (.slice (if c = 1 then ao else ao.map (fun a => a.add 1)) (n - 1) (c - 1)) l := by
  obtain ⟨ao', c', e, hc, hx⟩ := h
  simp only [Value.slice.injEq] at e
  obtain ⟨rfl, rfl, rfl⟩ := e
  simp only [List.length_cons] at hc ⊢
  refine ⟨_, c - 1, rfl, by omega, ?_⟩
  rcases hx with h0 | ⟨g, o, rfl, hg, hcell⟩
  · cases h0
  · by_cases h0 : c = 1
    · exact Or.inl (List.length_eq_zero_iff.1 (by omega))
    · refine Or.inr ⟨g, o + 1, by rw [if_neg h0, Option.map_some, Addr.add_lit], hg, fun j hj => ?_⟩
      have := hcell (j + 1) (by simp only [List.length_cons]; omega)
      rw [show o + (j + 1) = o + 1 + j by omega] at this
      simpa using this
set_option maxHeartbeats 1600000 in
set_option maxRecDepth 1000000 in
theorem readQuestion_any {P : Nat} {v : Value} {l : Ws} {cs : List Comp} {w : World} (A : All cs w) (hR : ∀ W, All cs W → Rt W v l) (hV : ∀ W, All cs W → Vars W) (hT : ∀ W, All cs W → Tab W) (hW : ∀ W, All cs W → Wf W) (hl : l.length ≤ 140737488355328) (hs : ∀ x ∈ l, x.length ≤ 140737488355328) :
    Calls Tryz.prog 123 #[.pointer (some ⟨P, 0, none⟩), v] w fun e w' => e = .returned (rdG P (queR l)) ∧ All cs w' := by
  obtain ⟨ao, c, rfl⟩ := (hR w A).form
  cases l with
  | nil =>
    unfold queR rdG
    dsimp only
    have A0 := hid A
    clear A hR hV hT hW hs hl
    simp only [List.length_nil]
    go_enter Tryz.func123, Tryz.ntmps123
    go_wp2
    go_ret2
    exact ⟨rfl, A0.out⟩
  | cons x r =>
    unfold queR
    dsimp only
    obtain ⟨g, o, rfl, _, hcell⟩ := (hR w A).at (j := 0) (by simp)
    rw [Nat.add_zero, show (x :: r).getD 0 [] = x from rfl] at hcell
    have NC := hid (Number_any (l := x) (hV w A) (hs x (by simp)))
    unfold numA at NC
    have A0 := hid A
    have hcc : (x :: r).length ≤ c := by
      obtain ⟨ao', c', e, hc, hx⟩ := hR w A
      simp only [Value.slice.injEq] at e
      obtain ⟨_, _, rfl⟩ := e
      exact hc
    have h1c : 1 ≤ c := by
      obtain ⟨ao', c', e, hc, hx⟩ := hR w A
      simp only [Value.slice.injEq] at e
      obtain ⟨_, _, rfl⟩ := e
      simp only [List.length_cons] at hc
      omega
    have h0l : 0 < (x :: r).length := by simp
    have h0i : (0 : Int) < ((x :: r).length : Int) := by simp only [List.length_cons]; omega
    have n0 : (((x :: r).length : Int) == 0) = false := by simp; omega
    have RO : Hid (∀ W, All cs W → Calls Tryz.prog 162 #[.slice (if c = 1 then some ⟨g, o, none⟩ else some ⟨g, o + 1, none⟩) ((x :: r).length - 1) (c - 1)] W fun e w' => e = .returned (.tuple #[(opRd r).2.val, .int .i64 (opRd r).1]) ∧ All cs w') := hid (fun W hW' => by
      refine readOp_any hW' (fun W' h' => ?_) hV hT hW (by simp only [List.length_cons] at hl; omega) (fun y hy => hs y (by simp [hy]))
      have := (hR W' h').tl
      rw [Option.map_some, Addr.add_lit] at this
      exact this)
    clear A hR hV hT hW hs
    cases hn : numW x with
    | none =>
      rw [hn] at NC
      simp only [Option.getD_none, Option.isSome_none] at NC
      unfold rdG
      dsimp only
      generalize ByteArray.mk x.toArray = X at *
      generalize (x :: r).length = nl at *
      clear hn RO hl
      go_enter Tryz.func123, Tryz.ntmps123
      go_wp2_with (go_at_call 164; refine NC.out.mono ?_; rintro e w2 ⟨rfl, B2⟩; have A3 := hid (A0.out.later B2); clear B2)
      go_ret2
      exact ⟨rfl, A3.out⟩
    | some q =>
      rw [hn] at NC
      simp only [Option.getD_some, Option.isSome_some] at NC
      dsimp only
      have hnl : (1 : Int) ≤ ((x :: r).length : Int) := by simp only [List.length_cons]; omega
      have hcap : ((x :: r).length : Int) ≤ 140737488355328 := by omega
      have hlc : (x :: r).length ≤ c := by
        have := hcc
        simp only [List.length_cons] at this ⊢
        omega
      generalize ByteArray.mk x.toArray = X at *
      generalize opRd r = rr at *
      obtain ⟨er, ⟨k, nm, tx, n, m⟩⟩ := rr
      simp only [OpR.val] at RO ⊢
      have hli : ((x :: r).length : Int) ≤ (c : Int) := by omega
      have h1i : (1 : Int) ≤ (c : Int) := by omega
      clear hn hl hcc
      generalize (x :: r).length = nl at *
      by_cases he : er ≠ 0
      · rw [if_pos he]
        generalize ByteArray.mk nm.toArray = NM at *
        generalize ByteArray.mk tx.toArray = TX at *
        have he' : (er != 0) = true := by simpa using he
        clear he
        unfold rdG
        go_enter Tryz.func123, Tryz.ntmps123
        go_wp2_with (first | (go_at_call 164; refine NC.out.mono ?_; rintro e w2 ⟨rfl, B2⟩; have A3 := hid (A0.out.later B2); clear B2) | (go_at_call 162; refine (RO.out _ A3.out).mono ?_; rintro e w3 ⟨rfl, A4⟩; have A5 := hid (A4.alloc (.cells #[.int .i64 k, .string NM, .string TX, .int .i64 (n : Int), .int .i64 (m : Int)] 42)); clear A4))
        all_goals
          go_ret2
          exact ⟨rfl, A5.out⟩
      · have he0 : er = 0 := Classical.byContradiction he
        subst he0
        rw [if_neg he]
        clear he
        unfold rdG Wi.fn
        dsimp only
        rw [if_pos rfl]
        generalize ByteArray.mk nm.toArray = NM at *
        generalize ByteArray.mk tx.toArray = TX at *
        go_enter Tryz.func123, Tryz.ntmps123
        go_wp2_with (first | (go_at_call 164; refine NC.out.mono ?_; rintro e w2 ⟨rfl, B2⟩; have A3 := hid (A0.out.later B2); clear B2) | (go_at_call 162; refine (RO.out _ A3.out).mono ?_; rintro e w3 ⟨rfl, A4⟩; have A5 := hid (A4.alloc (.cells #[.int .i64 k, .string NM, .string TX, .int .i64 (n : Int), .int .i64 (m : Int)] 42)); clear A4))
        all_goals
          go_ret2
          exact ⟨rfl, A5.out⟩
theorem tl_sub : (⟨#[115, 117, 98, 109, 105, 116]⟩ : ByteArray).toList = [115, 117, 98, 109, 105, 116] := by decide +kernel
theorem tl_ask : (⟨#[97, 115, 107]⟩ : ByteArray).toList = [97, 115, 107] := by decide +kernel
set_option maxRecDepth 1000000 in
theorem readWish_any {P : Nat} {v : Value} {x : List UInt8} {r : Ws} {cs : List Comp} {w : World} (A : All cs w) (hR : ∀ W, All cs W → Rt W v (x :: r)) (hV : ∀ W, All cs W → Vars W) (hT : ∀ W, All cs W → Tab W) (hW : ∀ W, All cs W → Wf W) (hl : (x :: r).length ≤ 140737488355328) (hs : ∀ y ∈ x :: r, y.length ≤ 140737488355328) :
    Calls Tryz.prog 87 #[.pointer (some ⟨P, 0, none⟩), v] w fun e w' => e = .returned (rdG P (wishR (x :: r))) ∧ All cs w' := by
  obtain ⟨ao, c, rfl⟩ := (hR w A).form
  obtain ⟨g, o, rfl, _, hcell⟩ := (hR w A).at (j := 0) (by simp)
  rw [Nat.add_zero, show (x :: r).getD 0 [] = x from rfl] at hcell
  have A0 := hid A
  have hcc : (x :: r).length ≤ c := by
    obtain ⟨ao', c', e, hc, hx⟩ := hR w A
    simp only [Value.slice.injEq] at e
    obtain ⟨_, _, rfl⟩ := e
    exact hc
  have hT1 : ∀ W, All cs W → Rt W (.slice (if c = 1 then some ⟨g, o, none⟩ else some ⟨g, o + 1, none⟩) ((x :: r).length - 1) (c - 1)) r := fun W h => by
    have := (hR W h).tl
    rw [Option.map_some, Addr.add_lit] at this
    exact this
  have RQ : Hid (∀ W, All cs W → Calls Tryz.prog 122 #[.pointer (some ⟨P, 0, none⟩), .slice (if c = 1 then some ⟨g, o, none⟩ else some ⟨g, o + 1, none⟩) ((x :: r).length - 1) (c - 1)] W fun e w' => e = .returned (rdG P (reqR r)) ∧ All cs w') := hid (fun W hW' => readRequest_any hW' hT1 hV hT hW (by simp only [List.length_cons] at hl; omega) (fun y hy => hs y (by simp [hy])))
  have QQ : Hid (∀ W, All cs W → Calls Tryz.prog 123 #[.pointer (some ⟨P, 0, none⟩), .slice (if c = 1 then some ⟨g, o, none⟩ else some ⟨g, o + 1, none⟩) ((x :: r).length - 1) (c - 1)] W fun e w' => e = .returned (rdG P (queR r)) ∧ All cs w') := hid (fun W hW' => readQuestion_any hW' hT1 hV hT hW (by simp only [List.length_cons] at hl; omega) (fun y hy => hs y (by simp [hy])))
  have HF : Hid (∀ q, ∃ a b, rdG P q = .tuple #[a, .int .i64 b]) := hid (fun q => by cases q <;> exact ⟨_, _, rfl⟩)
  have h0l : 0 < (x :: r).length := by simp
  have h0i : (0 : Int) < ((x :: r).length : Int) := by simp only [List.length_cons]; omega
  have h1n : (1 : Int) ≤ ((x :: r).length : Int) := by simp only [List.length_cons]; omega
  have hli : ((x :: r).length : Int) ≤ (c : Int) := by omega
  have h1i : (1 : Int) ≤ (c : Int) := by omega
  clear A hR hV hT hW hs hT1
  unfold wishR
  dsimp only
  by_cases e1 : x = subB
  · rw [if_pos e1]
    have q1 : ((⟨x.toArray⟩ : ByteArray).toList == (⟨subB.toArray⟩ : ByteArray).toList) = true := by rw [ba_ne]; exact decide_eq_true e1
    have e1b : (⟨subB.toArray⟩ : ByteArray) = ⟨#[115, 117, 98, 109, 105, 116]⟩ := rfl
    rw [e1b, tl_sub] at q1
    obtain ⟨va, vb, hq⟩ := HF.out (reqR r)
    rw [hq] at RQ ⊢
    clear QQ HF hq e1 e1b
    generalize ByteArray.mk x.toArray = X at *
    generalize (x :: r).length = nl at *
    go_enter Tryz.func87, Tryz.ntmps87
    go_wp2_with (go_at_call 122; refine (RQ.out _ A0.out).mono ?_; rintro e w3 ⟨rfl, A4⟩; have A5 := hid A4; clear A4)
    all_goals
      go_ret2
      exact ⟨rfl, A5.out⟩
  · rw [if_neg e1]
    have q1 : ((⟨x.toArray⟩ : ByteArray).toList == (⟨subB.toArray⟩ : ByteArray).toList) = false := by rw [ba_ne]; exact decide_eq_false e1
    have e1b : (⟨subB.toArray⟩ : ByteArray) = ⟨#[115, 117, 98, 109, 105, 116]⟩ := rfl
    rw [e1b, tl_sub] at q1
    have e2b : (⟨askB.toArray⟩ : ByteArray) = ⟨#[97, 115, 107]⟩ := rfl
    by_cases e2 : x = askB
    · rw [if_pos e2]
      have q2 : ((⟨x.toArray⟩ : ByteArray).toList == (⟨askB.toArray⟩ : ByteArray).toList) = true := by rw [ba_ne]; exact decide_eq_true e2
      rw [e2b, tl_ask] at q2
      obtain ⟨va, vb, hq⟩ := HF.out (queR r)
      rw [hq] at QQ ⊢
      clear RQ HF hq e1 e1b e2 e2b
      generalize ByteArray.mk x.toArray = X at *
      generalize (x :: r).length = nl at *
      go_enter Tryz.func87, Tryz.ntmps87
      go_wp2_with (go_at_call 123; refine (QQ.out _ A0.out).mono ?_; rintro e w3 ⟨rfl, A4⟩; have A5 := hid A4; clear A4)
      all_goals
        go_ret2
        exact ⟨rfl, A5.out⟩
    · rw [if_neg e2]
      have q2 : ((⟨x.toArray⟩ : ByteArray).toList == (⟨askB.toArray⟩ : ByteArray).toList) = false := by rw [ba_ne]; exact decide_eq_false e2
      rw [e2b, tl_ask] at q2
      unfold rdG
      clear RQ QQ HF e1 e1b e2 e2b
      generalize ByteArray.mk x.toArray = X at *
      generalize (x :: r).length = nl at *
      go_enter Tryz.func87, Tryz.ntmps87
      go_wp2
      go_ret2
      exact ⟨rfl, A0.out⟩
end Go.Proofs.YtdhkdniddjnigaaGreatDoor

namespace Go.Proofs.YtdhkdniddjnigaaGreatDoor
open Go.RowKit
set_option linter.unusedVariables false

theorem splitW_ok {l : List UInt8} {ws : Ws} (h : splitW l = .ok ws) : l.length ≤ 8192 ∧ runW .ahead [] 0 l = .ok ws := by
  unfold splitW at h
  split at h
  · simp at h
  · exact ⟨by omega, h⟩
theorem err_ok {A : Ans} (h : A.err = 0) : A = .ok A.ws := by
  cases A <;> simp [Ans.err] at h <;> rfl
/-- A line's words are not longer than the line. -/
theorem lenJ_wsz (ws : Ws) : lenJ ws ≤ 16 * wsz ws := by
  unfold lenJ wsz
  induction ws with
  | nil => simp
  | cons x r ih => simp only [List.map_cons, List.sum_cons, List.length_cons] at ih ⊢; omega
theorem finW_wsz (s : St) (ws : Ws) (k : Nat) : wsz (finW s ws k).ws ≤ s.held + wsz ws := by
  cases s <;> simp [finW, Ans.ws, St.held, wsz] <;> omega
theorem runW_wsz : ∀ (t : List UInt8) (s : St) (ws : Ws) (k : Nat), wsz (runW s ws k t).ws ≤ s.held + wsz ws + 2 * t.length
  | [], s, ws, k => by rw [runW]; exact Nat.le_trans (finW_wsz s ws k) (by simp)
  | b :: t, s, ws, k => by
    rw [runW]
    cases hs : stepW s ws k b with
    | go s' ws' =>
      simp only
      have h1 := runW_wsz t s' ws' (k + 1)
      have h2 := stepW_held hs
      simp only [List.length_cons]
      omega
    | bad j => simp [Ans.ws, wsz]

end Go.Proofs.YtdhkdniddjnigaaGreatDoor

namespace Go.Proofs.YtdhkdniddjnigaaGreatDoor
open Go.RowKit
set_option linter.unusedVariables false

def cdN : Ws := [[100, 111, 110, 101], [110, 111, 110, 101], [116, 104, 101, 114, 101], [102, 117, 108, 108], [101, 109, 112, 116, 121]]
/-- The codes' table. -/
def Cd (w : World) : Prop := 1 < w.heap.size ∧ ∀ k, k < 5 → w.cell? ⟨1, k, none⟩ = some (.string ⟨(cdN.getD k []).toArray⟩)
theorem Cd.later {w w' : World} (h : Cd w) (hb : Below w.heap.size w w') : Cd w' := ⟨Nat.lt_of_lt_of_le h.1 hb.size, fun k hk => cell_under hb h.1 (h.2 k hk)⟩
abbrev mkB (x : List UInt8) : ByteArray := ⟨x.toArray⟩
theorem Rt.txts {w : World} {s : Value} {l : Ws} (h : Rt w s l) : Txts w s (l.map mkB) := by
  obtain ⟨ao, c, e, hc, hx⟩ := h
  refine ⟨ao, c, by rw [e, List.length_map], by rw [List.length_map]; exact hc, ?_⟩
  rcases hx with rfl | ⟨g, o, ea, hg, hcell⟩
  · exact Or.inl rfl
  · refine Or.inr ⟨g, o, ea, hg, fun j hj => ?_⟩
    rw [List.length_map] at hj
    rw [hcell j hj, List.getElem_map]
/-- What CheckResult tells. -/
def chkW (c n : Int) (l : Ws) : Int := chkX c n (l.map mkB)
theorem check12 {w : World} (c n : Int) {s : Value} {l : Ws} (h : Rt w s l) (hl : l.length ≤ 140737488355328) : Calls Tryz.prog 98 #[resV c n s] w fun e w' => e = .returned (.int .i64 (chkW c n l)) ∧ Below w.heap.size w w' := checkX_any c n h.txts (by rw [List.length_map]; omega)
theorem check15 {w : World} (c n : Int) {s : Value} {l : Ws} (h : Rt w s l) (hl : l.length ≤ 140737488355328) : Calls Tryz.prog 71 #[resV c n s] w fun e w' => e = .returned (.int .i64 (chkW c n l)) ∧ Below w.heap.size w w' := checkX_ref c n h.txts (by rw [List.length_map]; omega)

set_option maxRecDepth 1000000 in
theorem clone_any {v : Value} {l : Ws} {cs : List Comp} {w : World} (A : All cs w) (h : Rt w v l) (hl : l.length * 16 ≤ 140737488355328) :
    Calls Tryz.prog 130 #[v] w fun e w' => ∃ v', e = .returned v' ∧ All (ownC 9 v' (txW l) :: cs) w' := by
  obtain ⟨ao0, c0, rfl⟩ := h.form
  obtain ⟨ao, c, w', hr, A2⟩ := appR (l := []) (own_new A [] (by simp)) (h.later (ba w _)) (by simpa using hl)
  rw [List.length_nil, Nat.zero_add, List.nil_append] at A2
  rw [List.length_nil, Nat.zero_add] at hr
  cases ao0 with
  | none =>
    have hl0 : l = [] := by
      obtain ⟨ao', c', e, _, hx⟩ := h
      rcases hx with rfl | ⟨g, o, rfl, _⟩
      · rfl
      · simp at e
    subst hl0
    have D := hid (All.addNil (e := 9) A)
    have he := fun w => Lib.run_eql_slice_nil (P := Tryz.prog) w 43 9 none 0 c0 0 0 Tryz.underlying43
    clear hr A2 A h hl
    go_enter Tryz.func130, Tryz.ntmps130
    go_wp2
    go_ret
    exact ⟨_, rfl, D.out⟩
  | some a =>
    have R : Hid ((Builtin.append_ #[43, 43] 43 #[.slice (some ⟨w.heap.size, 0, none⟩) 0 0, .slice (some a) l.length c0]).run Tryz.prog (w.alloc (.cells #[] 9)) = .ok (.slice ao l.length c) w') := hid hr
    have B := hid A2
    have he := fun w => Lib.run_eql_slice_nil (P := Tryz.prog) w 43 9 (some a) l.length c0 0 0 Tryz.underlying43
    clear hr A2 A h hl
    generalize hn : l.length = n at *
    clear hn
    go_enter Tryz.func130, Tryz.ntmps130
    go_wp2_with (at_builtin; refine wpList_append_run rfl _ _ 43 rfl _ _ _ _ rfl rfl R.out ?_)
    go_ret
    exact ⟨_, rfl, B.out⟩

set_option maxRecDepth 1000000 in
theorem codes_any {w : World} : Calls Tryz.prog 72 #[] w fun e w' => e = .returned (.slice (some ⟨w.heap.size, 0, none⟩) 5 5) ∧ w' = w.alloc (.cells (txW cdN).toArray 9) := by
  have e1 : (txW cdN).toArray = #[.string ⟨#[100, 111, 110, 101]⟩, .string ⟨#[110, 111, 110, 101]⟩, .string ⟨#[116, 104, 101, 114, 101]⟩, .string ⟨#[102, 117, 108, 108]⟩, .string ⟨#[101, 109, 112, 116, 121]⟩] := rfl
  rw [e1]
  clear e1
  go_enter Tryz.func72, Tryz.ntmps72
  go_wp2
  go_ret
  exact ⟨rfl, rfl⟩
theorem rt_codes (w : World) : Rt (w.alloc (.cells (txW cdN).toArray 9)) (.slice (some ⟨w.heap.size, 0, none⟩) 5 5) cdN := rt_own (own_new (All.came w) cdN (by simp [cdN]))
end Go.Proofs.YtdhkdniddjnigaaGreatDoor
