import Derived.Test.YtagdpfghooogfaaRoll
namespace Go.Proofs.Ytagdpfghooogfaa
open Go.RowKit
set_option linter.unusedVariables false

/-- A client's place. -/
structure Pl where
  on : Bool
  n : Int
  a : Int
  c : Int
  k : Int
  s : Value
  l : List ByteArray
def Pl.cells (p : Pl) : List Value := [.bool p.on, .int .i64 p.n, .int .i64 p.a, .int .i64 p.c, .int .i64 p.k, p.s]
def Pl.part (p : Pl) : Comp := ownC 9 p.s (cellsT p.l)
def Pl.zero : Pl := ⟨false, 0, 0, 0, 0, .slice none 0 0, []⟩
/-- What a place may have. -/
def Pl.ok (p : Pl) : Prop := p.on = false ∧ p = .zero ∨ p.on = true ∧ may p.n p.a p.c p.k p.l = true

def flatP (ps : List Pl) : List Value := ps.flatMap Pl.cells

theorem flatP_at {ps : List Pl} {i : Nat} {p : Pl} (h : ps[i]? = some p) {j : Nat} (hj : j < 6) : (flatP ps)[i * 6 + j]? = p.cells[j]? := by
  induction ps generalizing i with
  | nil => simp at h
  | cons q ps ih =>
    have hq : q.cells.length = 6 := rfl
    cases i with
    | zero =>
      have : q = p := by simpa using h
      subst this
      simp only [flatP, List.flatMap_cons, Nat.zero_mul, Nat.zero_add]
      rw [List.getElem?_append_left (by omega)]
    | succ i =>
      have := ih (i := i) (by simpa using h)
      simp only [flatP, List.flatMap_cons]
      rw [List.getElem?_append_right (by omega), ← this, flatP]
      congr 1
      omega

theorem flatP_set {ps : List Pl} {i : Nat} {p q : Pl} (h : ps[i]? = some p) : ((((((flatP ps).set (i * 6) (.bool q.on)).set (i * 6 + 1) (.int .i64 q.n)).set (i * 6 + 2) (.int .i64 q.a)).set (i * 6 + 3) (.int .i64 q.c)).set (i * 6 + 4) (.int .i64 q.k)).set (i * 6 + 5) q.s = flatP (ps.set i q) := by
  induction ps generalizing i with
  | nil => simp at h
  | cons r ps ih =>
    cases i with
    | zero => simp [flatP, Pl.cells]
    | succ i =>
      have := ih (i := i) (by simpa using h)
      have e : ∀ (m : Nat) (u : Value) (L : List Value), (r.cells ++ L).set (6 + m) u = r.cells ++ L.set m u := fun m u L => by
        rw [List.set_append_right _ _ (by simp [Pl.cells])]; simp [Pl.cells]
      have e0 : (i + 1) * 6 = 6 + i * 6 := by omega
      simp only [flatP, List.flatMap_cons, List.set_cons_succ] at this ⊢
      rw [e0]
      simp only [Nat.add_assoc, e]
      rw [this]

/-- A roll, as parts. -/
def rollL (g : Nat) (ps : List Pl) : List Comp := blkC g (flatP ps) 69 :: ps.map Pl.part

theorem has_any {g i : Nat} {ps : List Pl} {p : Pl} {w : World} (h : w.heap[g]? = some (.cells (flatP ps).toArray 69 (0, 0))) (hp : ps[i]? = some p) (hi : i < 8) : Calls Try.prog 29 #[.pointer (some ⟨g, 0, none⟩), .int .i64 (i : Int)] w fun e w' => e = .returned (.bool p.on) ∧ w' = w := by
  have c0 : w.cell? ⟨g, i * 6, none⟩ = some (.bool p.on) := by
    rw [cell_at h]
    exact (List.getElem?_toArray ..).trans (flatP_at hp (j := 0) (by omega))
  clear h
  have e : decide ((0 : Int) ≤ (i : Int) ∧ (i : Int) < 8) = true := by simp; omega
  have hI : (i : Int) < 8 := by omega
  go_enter Try.func29, Try.ntmps29
  go_wp2_with fail
  refine (isClient_any _).mono ?_
  rintro e w1 ⟨rfl, rfl⟩
  rw [e]
  go_wp2
  go_ret
  exact ⟨rfl, rfl⟩

theorem has_none {r : Value} {c : Int} {w : World} (hc : ¬ (0 ≤ c ∧ c < 8)) : Calls Try.prog 29 #[r, .int .i64 c] w fun e w' => e = .returned (.bool false) ∧ w' = w := by
  have e : decide ((0 : Int) ≤ c ∧ c < 8) = false := by simpa using hc
  clear hc
  go_enter Try.func29, Try.ntmps29
  go_wp2_with fail
  refine (isClient_any _).mono ?_
  rintro e w1 ⟨rfl, rfl⟩
  rw [e]
  go_wp2
  go_ret
  exact ⟨rfl, rfl⟩

/-- The row's cells of a place. -/
theorem cells5 {g i : Nat} {ps : List Pl} {p : Pl} {w : World} (h : w.heap[g]? = some (.cells (flatP ps).toArray 69 (0, 0))) (hp : ps[i]? = some p) :
    w.cell? ⟨g, i * 6, none⟩ = some (.bool p.on) ∧ w.cell? ⟨g, i * 6 + 1, none⟩ = some (.int .i64 p.n) ∧ w.cell? ⟨g, i * 6 + 2, none⟩ = some (.int .i64 p.a) ∧ w.cell? ⟨g, i * 6 + 3, none⟩ = some (.int .i64 p.c) ∧ w.cell? ⟨g, i * 6 + 4, none⟩ = some (.int .i64 p.k) ∧ w.cell? ⟨g, i * 6 + 5, none⟩ = some p.s := by
  refine ⟨?_, ?_, ?_, ?_, ?_, ?_⟩
  · rw [cell_at h]; exact (List.getElem?_toArray ..).trans (flatP_at hp (j := 0) (by omega))
  · rw [cell_at h]; exact (List.getElem?_toArray ..).trans (flatP_at hp (j := 1) (by omega))
  · rw [cell_at h]; exact (List.getElem?_toArray ..).trans (flatP_at hp (j := 2) (by omega))
  · rw [cell_at h]; exact (List.getElem?_toArray ..).trans (flatP_at hp (j := 3) (by omega))
  · rw [cell_at h]; exact (List.getElem?_toArray ..).trans (flatP_at hp (j := 4) (by omega))
  · rw [cell_at h]; exact (List.getElem?_toArray ..).trans (flatP_at hp (j := 5) (by omega))

theorem All.place {g i : Nat} {ps : List Pl} {p : Pl} {cs : List Comp} {w : World} (h : All (rollL g ps ++ cs) w) (hp : ps[i]? = some p) : w.heap[g]? = some (.cells (flatP ps).toArray 69 (0, 0)) ∧ Txts w p.s p.l := by
  refine ⟨h.blk (by simp [rollL]), ?_⟩
  have hm : p.part ∈ rollL g ps ++ cs := List.mem_append_left _ (List.mem_cons_of_mem _ (List.mem_map_of_mem (List.mem_of_getElem? hp)))
  have := (h.mem hm).2.1
  exact Txts.of_owns (by have h2 : w.ownsRow 0 9 1 p.s (cellsT p.l).length (cellsT p.l) := this; rw [cellsT_length] at h2; exact h2)

theorem res22 {tmps : Array Value} {w : World} {b : Nat} {n a c k : Int} {s v : Value} (ht : tmps.getD 4 undef = .pointer (some ⟨b, 0, none⟩)) (hv : tmps.getD 5 undef = v) (h : w.heap[b]? = some (.cells #[.int .i64 n, .int .i64 a, .int .i64 c, .int .i64 k, s] 39 (0, 0))) : (results Try.f22 tmps).run Try.prog w = .ok (.tuple #[rowV n a c k s, v]) w := by
  have hp' : tmps[4]?.getD undef = .pointer (some ⟨b, 0, none⟩) := by simpa using ht
  have hv' : tmps[5]?.getD undef = v := by simpa using hv
  have hres : Try.f22.results = #[.cell 4 39, .tmp 5] := rfl
  have x0 : w.cell? ⟨b, 0, none⟩ = some (.int .i64 n) := by rw [cell_at h]; rfl
  have x1 : w.cell? ⟨b, 1, none⟩ = some (.int .i64 a) := by rw [cell_at h]; rfl
  have x2 : w.cell? ⟨b, 2, none⟩ = some (.int .i64 c) := by rw [cell_at h]; rfl
  have x3 : w.cell? ⟨b, 3, none⟩ = some (.int .i64 k) := by rw [cell_at h]; rfl
  have x4 : w.cell? ⟨b, 4, none⟩ = some s := by rw [cell_at h]; rfl
  simp only [results, hres]
  go_simp

set_option maxRecDepth 1000000 in
/-- Last, of a client that has a row. -/
theorem last_on {g i : Nat} {ps : List Pl} {p : Pl} {cs : List Comp} {w : World} (h : All (rollL g ps ++ cs) w) (hp : ps[i]? = some p) (hi : i < 8) (hon : p.on = true) (hl : p.l.length ≤ 1000) : Calls Try.prog 22 #[.pointer (some ⟨g, 0, none⟩), .int .i64 (i : Int)] w fun e w' => ∃ ao c', e = .returned (.tuple #[rowV p.n p.a p.c p.k (.slice ao p.l.length c'), .bool true]) ∧ All (ownC 9 (.slice ao p.l.length c') (cellsT p.l) :: (rollL g ps ++ cs)) w' := by
  obtain ⟨hg, hT⟩ := h.place hp
  have HH := hid (hg)
  obtain ⟨c0, c1, c2, c3, c4, c5⟩ := cells5 hg hp
  obtain ⟨ao, cp, e5⟩ := hT.form
  have HT := hid hT
  have HA := hid h
  have HP := hid hp
  have hgl : g < w.heap.size := (Array.getElem?_eq_some_iff.1 hg).1
  have hI : (i : Int) < 8 := by omega
  rw [e5] at c5
  clear h hg hT
  go_enter Try.func22, Try.ntmps22
  go_wp2_with fail
  refine (has_any ((Below.heap_alloc _ _ _ hgl).trans HH.out) HP.out hi).mono ?_
  rw [hon]
  rintro e w1 ⟨rfl, rfl⟩
  have HA1 := hid (HA.out.addBlk [.int .i64 0, .int .i64 0, .int .i64 0, .int .i64 0, .slice none 0 0] 39)
  clear HA HH
  go_wp2_with fail
  refine (copied_any HA1.out p.n p.a p.c p.k (e5 ▸ HT.out.alloc _) hl).mono ?_
  rintro e w1 ⟨ao', c', rfl, A2, B2⟩
  have er : w1.heap[w.heap.size]? = some (.cells #[.int .i64 0, .int .i64 0, .int .i64 0, .int .i64 0, .slice none 0 0] 39 (0, 0)) := A2.tail.1.2.1
  have r0 : w1.cell? ⟨w.heap.size, 0, none⟩ = some (.int .i64 0) := by rw [cell_at er]; rfl
  have r1 : w1.cell? ⟨w.heap.size, 1, none⟩ = some (.int .i64 0) := by rw [cell_at er]; rfl
  have r2 : w1.cell? ⟨w.heap.size, 2, none⟩ = some (.int .i64 0) := by rw [cell_at er]; rfl
  have r3 : w1.cell? ⟨w.heap.size, 3, none⟩ = some (.int .i64 0) := by rw [cell_at er]; rfl
  have r4 : w1.cell? ⟨w.heap.size, 4, none⟩ = some (.slice none 0 0) := by rw [cell_at er]; rfl
  have fr0 := free_at er 0
  have fr1 := free_at er 1
  have fr2 := free_at er 2
  have fr3 := free_at er 3
  have fr4 := free_at er 4
  have HA2 := hid A2
  clear er A2 B2 HA1 HT
  go_wp2
  have A3 := ((((HA2.out.swap.setBlk 0 (.int .i64 p.n)).setBlk 1 (.int .i64 p.a)).setBlk 2 (.int .i64 p.c)).setBlk 3 (.int .i64 p.k)).setBlk 4 (.slice ao' p.l.length c')
  refine bodyPost_ret (v := .tuple #[rowV p.n p.a p.c p.k (.slice ao' p.l.length c'), .bool true]) (res22 (b := w.heap.size) rfl rfl A3.1.2.1) rfl ?_
  exact ⟨ao', c', rfl, A3.tail⟩

set_option maxRecDepth 1000000 in
theorem last_off {g : Nat} {c : Int} {ps : List Pl} {cs : List Comp} {w : World} (h : All (rollL g ps ++ cs) w) (hn : ∀ w', All (rollL g ps ++ cs) w' → Calls Try.prog 29 #[.pointer (some ⟨g, 0, none⟩), .int .i64 c] w' fun e w2 => e = .returned (.bool false) ∧ w2 = w') : Calls Try.prog 22 #[.pointer (some ⟨g, 0, none⟩), .int .i64 c] w fun e w' => e = .returned (.tuple #[rowV 0 0 0 0 (.slice none 0 0), .bool false]) ∧ All (rollL g ps ++ cs) w' := by
  have HN := hid hn
  have HA := hid h
  clear h hn
  go_enter Try.func22, Try.ntmps22
  go_wp2_with fail
  refine (HN.out _ (HA.out.later (ba _ _))).mono ?_
  rintro e w1 ⟨rfl, hw1⟩
  have HA1 := hid (HA.out.addBlk [.int .i64 0, .int .i64 0, .int .i64 0, .int .i64 0, .slice none 0 0] 39)
  rw [show w.alloc (.cells [.int .i64 0, .int .i64 0, .int .i64 0, .int .i64 0, .slice none 0 0].toArray 39) = w1 from hw1.symm] at HA1
  clear HA hw1
  have er : w1.heap[w.heap.size]? = some (.cells #[.int .i64 0, .int .i64 0, .int .i64 0, .int .i64 0, .slice none 0 0] 39 (0, 0)) := HA1.out.1.2.1
  have r0 : w1.cell? ⟨w.heap.size, 0, none⟩ = some (.int .i64 0) := by rw [cell_at er]; rfl
  have r1 : w1.cell? ⟨w.heap.size, 1, none⟩ = some (.int .i64 0) := by rw [cell_at er]; rfl
  have r2 : w1.cell? ⟨w.heap.size, 2, none⟩ = some (.int .i64 0) := by rw [cell_at er]; rfl
  have r3 : w1.cell? ⟨w.heap.size, 3, none⟩ = some (.int .i64 0) := by rw [cell_at er]; rfl
  have r4 : w1.cell? ⟨w.heap.size, 4, none⟩ = some (.slice none 0 0) := by rw [cell_at er]; rfl
  have fr0 := free_at er 0
  have fr1 := free_at er 1
  have fr2 := free_at er 2
  have fr3 := free_at er 3
  have fr4 := free_at er 4
  clear er
  go_wp2
  have A3 := ((((HA1.out.setBlk 0 (.int .i64 0)).setBlk 1 (.int .i64 0)).setBlk 2 (.int .i64 0)).setBlk 3 (.int .i64 0)).setBlk 4 (.slice none 0 0)
  refine bodyPost_ret (v := .tuple #[rowV 0 0 0 0 (.slice none 0 0), .bool false]) (res22 (b := w.heap.size) rfl rfl A3.1.2.1) rfl ?_
  exact ⟨rfl, A3.tail⟩

theorem new_any {cs : List Comp} {w : World} (h : All cs w) : Calls Try.prog 8 #[] w fun e w' => ∃ g, e = .returned (.pointer (some ⟨g, 0, none⟩)) ∧ All (rollL g (List.replicate 8 .zero) ++ cs) w' := by
  have HA := hid h
  clear h
  go_enter Try.func8, Try.ntmps8
  go_wp2
  go_ret
  refine ⟨_, rfl, ?_⟩
  have A0 : All ((List.replicate 8 Pl.zero).map Pl.part ++ cs) w := (((((((HA.out.addNil (e := 9)).addNil (e := 9)).addNil (e := 9)).addNil (e := 9)).addNil (e := 9)).addNil (e := 9)).addNil (e := 9)).addNil (e := 9)
  exact A0.addBlk (flatP (List.replicate 8 .zero)) 69

end Go.Proofs.Ytagdpfghooogfaa
