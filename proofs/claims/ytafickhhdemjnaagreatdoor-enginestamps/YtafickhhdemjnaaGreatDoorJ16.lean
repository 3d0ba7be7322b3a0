import Derived.Test.YtafickhhdemjnaaGreatDoorJ7
import Derived.Test.YtafickhhdemjnaaGreatDoorJ15
namespace Go.Proofs.YtafickhhdemjnaaGreatDoor
open Go.RowKit
set_option linter.unusedVariables false

theorem Tryz.info9R7 : (Tryz.prog.info? 9).map (fun i => (i.zero, i.size, i.bytes)) = some (some (.string (.mk #[])), 1, 16) := by kernel_rfl

/-- Texts as cells. -/
def cellsT (l : List ByteArray) : List Value := l.map .string
theorem cellsT_length (l : List ByteArray) : (cellsT l).length = l.length := by simp [cellsT]
theorem cellsT_one (l : List ByteArray) : ∀ u ∈ cellsT l, u.oneCell' = true := by
  intro u hu
  obtain ⟨_, _, rfl⟩ := List.mem_map.1 hu
  rfl

theorem Txts.of_owns {w : World} {base : Nat} {s : Value} {l : List ByteArray} (h : w.ownsRow base 9 1 s l.length (cellsT l)) : Txts w s l := by
  have hc := fun g => h.cells (g := g)
  rcases h.2 with ⟨rfl, e⟩ | ⟨g, cap, cur, rfl, hg, hgg, hn, _⟩
  · exact ⟨none, 0, by rw [e], by omega, Or.inl (List.eq_nil_of_length_eq_zero e)⟩
  · refine ⟨_, cap, rfl, hn, Or.inr ⟨g, 0, rfl, (Array.getElem?_eq_some_iff.1 hgg).1, fun j hj => ?_⟩⟩
    have := hc g rfl j (.string l[j]) (by simp [cellsT, hj])
    simpa [Addr.add_lit] using this

set_option maxHeartbeats 800000 in
set_option maxRecDepth 1000000 in
theorem tclone_someR7 {w : World} (a : Addr) (c : Nat) (l : List ByteArray) (hc : ∀ j u, (cellsT l)[j]? = some u → w.cell? (a.add j) = some u) (hg : l ≠ [] → ∃ g o, a = ⟨g, o, none⟩ ∧ g < w.heap.size) (hlen : l.length ≤ 1000) :
    Calls Tryz.prog 121 #[.slice (some a) l.length c] w fun e w' => ∃ s', e = .returned s' ∧ w'.ownsRow w.heap.size 9 1 s' l.length (cellsT l) ∧ Below w.heap.size w w' := by
  obtain ⟨i0, hi, hz0, hz1, hz2⟩ := info_parts Tryz.info9R7
  have he := fun w => Lib.run_eql_slice_nil (P := Tryz.prog) w 54 9 (some a) l.length c 0 0 Tryz.underlying54
  have hnews : ∀ j u, (cellsT l)[j]? = some u → (w.alloc (.cells #[] 9)).cell? (a.add j) = some u := by
    intro j u hu
    have hne : l ≠ [] := by rintro rfl; simp [cellsT] at hu
    obtain ⟨g, o, rfl, hgl⟩ := hg hne
    have := hc j u hu
    rw [Addr.add_lit] at this ⊢
    rw [World.cell?_alloc_past _ _ _ hgl]
    exact this
  clear hc hg
  have h0 : (w.alloc (.cells #[] 9)).ownsRow w.heap.size 9 1 (.slice (some ⟨w.heap.size, 0, none⟩) 0 0) 0 [] := World.ownsRow_made w #[] 0 (Nat.le_refl _) (by unfold maxLen; omega) rfl
  go_enter Tryz.func121, Tryz.ntmps121
  go_wp2_with (at_builtin; refine wpList_append_own_at _ rfl (.tmp 5) (.tmp 6) 54 rfl w.heap.size 9 i0 (.string (.mk #[])) 1 16 Tryz.underlying54 hi hz0 hz1 hz2 rfl (by decide) _ _ _ rfl h0 a l.length c (cellsT l) rfl (by rw [cellsT_length]; omega) hnews (cellsT_one _) (by unfold maxLen; omega) (by omega) (by simp) ?_)
  intro v' w1 hown hgr hnil hat
  have R : Hid (w1.ownsRow w.heap.size 9 1 v' l.length (cellsT l) ∧ Below w.heap.size w w1) := by
    refine ⟨by simpa using hown, ((Below.refl _ _).alloc (Nat.le_refl _) _).grown hgr (by simp) (fun k hk => ?_)⟩
    simp [Value.ownBlock] at hk
    omega
  clear hown hgr hnil hat h0
  go_wp2
  go_ret
  exact ⟨v', rfl, R.out.1, R.out.2⟩

theorem tclone_anyR7 {w : World} {s : Value} {l : List ByteArray} (h : Txts w s l) (hlen : l.length ≤ 1000) :
    Calls Tryz.prog 121 #[s] w fun e w' => ∃ s', e = .returned s' ∧ w'.ownsRow w.heap.size 9 1 s' l.length (cellsT l) ∧ Below w.heap.size w w' := by
  obtain ⟨ao, c, rfl, hc, hx⟩ := h
  have hx' : (l = [] ∧ ao = none) ∨ ∃ a, ao = some a ∧ (l ≠ [] → ∃ g o, a = ⟨g, o, none⟩ ∧ g < w.heap.size) ∧ ∀ j u, (cellsT l)[j]? = some u → w.cell? (a.add j) = some u := by
    rcases hx with rfl | ⟨g, o, rfl, hg, hcell⟩
    · cases ao with
      | none => exact .inl ⟨rfl, rfl⟩
      | some a => exact .inr ⟨a, rfl, fun h => absurd rfl h, fun j u hu => by simp [cellsT] at hu⟩
    · refine .inr ⟨_, rfl, fun _ => ⟨_, _, rfl, hg⟩, fun j u hu => ?_⟩
      simp only [cellsT, List.getElem?_map] at hu
      obtain ⟨x, hx, rfl⟩ := Option.map_eq_some_iff.1 hu
      obtain ⟨hj, rfl⟩ := List.getElem?_eq_some_iff.1 hx
      rw [Addr.add_lit]
      exact hcell j hj
  rcases hx' with ⟨rfl, rfl⟩ | ⟨a, rfl, hg, hcell⟩
  · refine (tclone_none c).mono ?_
    rintro e w' ⟨rfl, rfl⟩
    exact ⟨_, rfl, World.ownsRow_nil _ _ _ _, Below.refl _ _⟩
  · exact tclone_someR7 a c l hcell hg hlen

end Go.Proofs.YtafickhhdemjnaaGreatDoor

namespace Go.Proofs.YtafickhhdemjnaaGreatDoor
open Go.RowKit
set_option linter.unusedVariables false

abbrev rowV (n a c k : Int) (s : Value) : Value := .agg #[.int .i64 n, .int .i64 a, .int .i64 c, .int .i64 k, s]

/-- May a row be? -/
def may (n a c k : Int) (l : List ByteArray) : Bool := decide (1 ≤ n ∧ n ≤ 1099511627776 ∧ 1 ≤ a ∧ a ≤ 1099511627776 ∧ chkX c k l = 0)

theorem isClient_any {w : World} (c : Int) : Calls Tryz.prog 120 #[.int .i64 c] w fun e w' => e = .returned (.bool (decide (0 ≤ c ∧ c < 8))) ∧ w' = w := by
  by_cases h0 : 0 ≤ c
  · have e0 : decide (0 ≤ c) = true := by simpa using h0
    have e : decide (0 ≤ c ∧ c < 8) = decide (c < 8) := by rw [Bool.eq_iff_iff]; simp [h0]
    rw [e]
    clear e
    go_enter Tryz.func120, Tryz.ntmps120
    go_wp2
    go_ret
    exact ⟨rfl, rfl⟩
  · have e0 : decide (0 ≤ c) = false := by simpa using h0
    have e : decide (0 ≤ c ∧ c < 8) = false := by simp [h0]
    rw [e]
    clear e
    go_enter Tryz.func120, Tryz.ntmps120
    go_wp2
    go_ret
    exact ⟨rfl, rfl⟩

theorem rises_any {w : World} (n a c k n' a' c' k' : Int) (s s' : Value) : Calls Tryz.prog 165 #[rowV n a c k s, rowV n' a' c' k' s'] w fun e w' => e = .returned (.bool (decide (n < n' ∧ a < a'))) ∧ Below w.heap.size w w' := by
  by_cases h0 : n < n'
  · have e0 : decide (n < n') = true := by simpa using h0
    have e : decide (n < n' ∧ a < a') = decide (a < a') := by rw [Bool.eq_iff_iff]; simp [h0]
    rw [e]
    clear e
    go_enter Tryz.func165, Tryz.ntmps165
    go_wp2
    go_ret
    exact ⟨rfl, (ba _ _).trans ((ba _ _).mono (by simp))⟩
  · have e0 : decide (n < n') = false := by simpa using h0
    have e : decide (n < n' ∧ a < a') = false := by simp [h0]
    rw [e]
    clear e
    go_enter Tryz.func165, Tryz.ntmps165
    go_wp2
    go_ret
    exact ⟨rfl, (ba _ _).trans ((ba _ _).mono (by simp))⟩

theorem mayBe_any {w : World} (n a c k : Int) {s : Value} {l : List ByteArray} (h : Txts w s l) (hl : l.length ≤ 9223372036854775807) : Calls Tryz.prog 164 #[rowV n a c k s] w fun e w' => e = .returned (.bool (may n a c k l)) ∧ Below w.heap.size w w' := by
  obtain ⟨ao, cp, rfl⟩ := h.form
  have HT := hid h
  clear h
  by_cases h0 : 1 ≤ n
  · have e0 : decide (1 ≤ n) = true := by simpa using h0
    by_cases h1 : n ≤ 1099511627776
    · have e1 : decide (n ≤ 1099511627776) = true := by simpa using h1
      by_cases h2 : 1 ≤ a
      · have e2 : decide (1 ≤ a) = true := by simpa using h2
        by_cases h3 : a ≤ 1099511627776
        · have e3 : decide (a ≤ 1099511627776) = true := by simpa using h3
          have F : Hid (may n a c k l = (chkX c k l == 0)) := by show _ = _; unfold may; rw [Bool.eq_iff_iff]; simp [h0, h1, h2, h3]
          go_enter Tryz.func164, Tryz.ntmps164
          go_wp2_with fail
          refine (checkX_any c k (HT.out.alloc _) hl).mono ?_
          rintro e w1 ⟨rfl, B⟩
          have B := hid ((ba _ _).trans (B.mono (by simp)))
          generalize chkX c k l = ck at F ⊢
          go_wp2
          go_ret
          exact ⟨by rw [F.out]; rfl, B.out⟩
        · have e3 : decide (a ≤ 1099511627776) = false := by simpa using h3
          have F : Hid (may n a c k l = false) := by show _ = _; simp [may, h3]
          go_enter Tryz.func164, Tryz.ntmps164
          go_wp2
          go_ret
          exact ⟨by rw [F.out]; rfl, by first | exact Below.refl _ _ | exact ba _ _⟩
      · have e2 : decide (1 ≤ a) = false := by simpa using h2
        have F : Hid (may n a c k l = false) := by show _ = _; simp [may, h2]
        go_enter Tryz.func164, Tryz.ntmps164
        go_wp2
        go_ret
        exact ⟨by rw [F.out]; rfl, by first | exact Below.refl _ _ | exact ba _ _⟩
    · have e1 : decide (n ≤ 1099511627776) = false := by simpa using h1
      have F : Hid (may n a c k l = false) := by show _ = _; simp [may, h1]
      go_enter Tryz.func164, Tryz.ntmps164
      go_wp2
      go_ret
      exact ⟨by rw [F.out]; rfl, by first | exact Below.refl _ _ | exact ba _ _⟩
  · have e0 : decide (1 ≤ n) = false := by simpa using h0
    have F : Hid (may n a c k l = false) := by show _ = _; simp [may, h0]
    go_enter Tryz.func164, Tryz.ntmps164
    go_wp2
    go_ret
    exact ⟨by rw [F.out]; rfl, by first | exact Below.refl _ _ | exact ba _ _⟩

theorem All.rev3 {a b c : Comp} {cs : List Comp} {w : World} (h : All (a :: b :: c :: cs) w) : All (c :: b :: a :: cs) w :=
  h.perm ((List.Perm.swap _ _ _).trans ((List.Perm.cons _ (List.Perm.swap _ _ _)).trans (List.Perm.swap _ _ _)))

theorem res31 {tmps : Array Value} {w : World} {b : Nat} {n a c k : Int} {s : Value} (ht : tmps.getD 2 undef = .pointer (some ⟨b, 0, none⟩)) (h : w.heap[b]? = some (.cells #[.int .i64 n, .int .i64 a, .int .i64 c, .int .i64 k, s] 60 (0, 0))) : (results Tryz.f84 tmps).run Tryz.prog w = .ok (rowV n a c k s) w := by
  have hp' : tmps[2]?.getD undef = .pointer (some ⟨b, 0, none⟩) := by simpa using ht
  have hres : Tryz.f84.results = #[.cell 2 60] := rfl
  have x0 : w.cell? ⟨b, 0, none⟩ = some (.int .i64 n) := by rw [cell_at h]; rfl
  have x1 : w.cell? ⟨b, 1, none⟩ = some (.int .i64 a) := by rw [cell_at h]; rfl
  have x2 : w.cell? ⟨b, 2, none⟩ = some (.int .i64 c) := by rw [cell_at h]; rfl
  have x3 : w.cell? ⟨b, 3, none⟩ = some (.int .i64 k) := by rw [cell_at h]; rfl
  have x4 : w.cell? ⟨b, 4, none⟩ = some s := by rw [cell_at h]; rfl
  simp only [results, hres]
  go_simp

theorem copied_any {cs : List Comp} {w : World} (hA : All cs w) (n a c k : Int) {s : Value} {l : List ByteArray} (h : Txts w s l) (hl : l.length ≤ 1000) : Calls Tryz.prog 84 #[rowV n a c k s] w fun e w' => ∃ ao c', e = .returned (rowV n a c k (.slice ao l.length c')) ∧ All (ownC 9 (.slice ao l.length c') (cellsT l) :: cs) w' ∧ Below w.heap.size w w' := by
  obtain ⟨ao, cp, rfl⟩ := h.form
  have HT := hid h
  have HA := hid ((hA.addBlk [.int .i64 n, .int .i64 a, .int .i64 c, .int .i64 k, .slice ao l.length cp] 60).addBlk [.int .i64 0, .int .i64 0, .int .i64 0, .int .i64 0, .slice none 0 0] 60)
  clear h hA
  go_enter Tryz.func84, Tryz.ntmps84
  go_wp2_with fail
  refine (tclone_anyR7 ((HT.out.alloc _).alloc _) hl).mono ?_
  rintro e w1 ⟨s', rfl, O1, B1⟩
  have HA1 := hid (HA.out.addOwn B1 (by rw [cellsT_length]; exact O1))
  have HB := hid B1
  clear HA
  have ex : w1.heap[w.heap.size]? = some (.cells #[.int .i64 n, .int .i64 a, .int .i64 c, .int .i64 k, .slice ao l.length cp] 60 (0, 0)) := (B1.block _ (by simp; omega)).trans ((Below.heap_alloc _ _ _ (by simp)).trans (heap_alloc_new w _))
  have er : w1.heap[w.heap.size + 1]? = some (.cells #[.int .i64 0, .int .i64 0, .int .i64 0, .int .i64 0, .slice none 0 0] 60 (0, 0)) := (B1.block _ (by simp)).trans (by have := heap_alloc_new (w.alloc (.cells #[.int .i64 n, .int .i64 a, .int .i64 c, .int .i64 k, .slice ao l.length cp] 60)) (.cells #[.int .i64 0, .int .i64 0, .int .i64 0, .int .i64 0, .slice none 0 0] 60); simpa using this)
  have x0 : w1.cell? ⟨w.heap.size, 0, none⟩ = some (.int .i64 n) := by rw [cell_at ex]; rfl
  have x1 : w1.cell? ⟨w.heap.size, 1, none⟩ = some (.int .i64 a) := by rw [cell_at ex]; rfl
  have x2 : w1.cell? ⟨w.heap.size, 2, none⟩ = some (.int .i64 c) := by rw [cell_at ex]; rfl
  have x3 : w1.cell? ⟨w.heap.size, 3, none⟩ = some (.int .i64 k) := by rw [cell_at ex]; rfl
  have x4 : w1.cell? ⟨w.heap.size, 4, none⟩ = some (.slice ao l.length cp) := by rw [cell_at ex]; rfl
  have fx := free_at ex 4
  have r0 : w1.cell? ⟨w.heap.size + 1, 0, none⟩ = some (.int .i64 0) := by rw [cell_at er]; rfl
  have r1 : w1.cell? ⟨w.heap.size + 1, 1, none⟩ = some (.int .i64 0) := by rw [cell_at er]; rfl
  have r2 : w1.cell? ⟨w.heap.size + 1, 2, none⟩ = some (.int .i64 0) := by rw [cell_at er]; rfl
  have r3 : w1.cell? ⟨w.heap.size + 1, 3, none⟩ = some (.int .i64 0) := by rw [cell_at er]; rfl
  have r4 : w1.cell? ⟨w.heap.size + 1, 4, none⟩ = some (.slice none 0 0) := by rw [cell_at er]; rfl
  have fr0 := free_at er 0
  have fr1 := free_at er 1
  have fr2 := free_at er 2
  have fr3 := free_at er 3
  have fr4 := free_at er 4
  have EX := hid ex
  have ER := hid er
  obtain ⟨so, sc, rfl⟩ := owns_form O1
  clear O1 B1 ex er
  go_wp2
  have A2 := ((((((HA1.out.rev3.setBlk 4 (.slice so l.length sc)).swap.setBlk 0 (.int .i64 n)).setBlk 1 (.int .i64 a)).setBlk 2 (.int .i64 c)).setBlk 3 (.int .i64 k)).setBlk 4 (.slice so l.length sc))
  simp only [World.size_alloc] at A2
  refine bodyPost_ret (v := rowV n a c k (.slice so l.length sc)) (res31 (b := w.heap.size + 1) rfl A2.1.2.1) rfl ?_
  refine ⟨so, sc, rfl, A2.tail.tail, ?_⟩
  have B0 : Below w.heap.size w w1 := ((ba _ _).trans ((ba _ _).mono (by simp))).trans (HB.out.mono (by simp; omega))
  exact (((((B0.setCell (by simp) _).setCell (by simp) _).setCell (by simp) _).setCell (by simp) _).setCell (by simp) _).setCell (by simp) _

end Go.Proofs.YtafickhhdemjnaaGreatDoor

namespace Go.Proofs.YtafickhhdemjnaaGreatDoor
open Go.RowKit
set_option linter.unusedVariables false

/-- A client's place. -/
structure Pl where
  on : Bool
  n : Int
  a : Int
  c : Int
  k : Int
  s : Value
  l : List ByteArray
def Pl.cells (p : Pl) : List Value := [.bool p.on, .int .i64 p.n, .int .i64 p.a, .int .i64 p.c, .int .i64 p.k, p.s]
def Pl.part (p : Pl) : Comp := ownC 9 p.s (cellsT p.l)
def Pl.zero : Pl := ⟨false, 0, 0, 0, 0, .slice none 0 0, []⟩
/-- What a place may have. -/
def Pl.none (p : Pl) : Prop := p.n = 0 ∧ p.a = 0 ∧ p.c = 0 ∧ p.k = 0 ∧ p.l = []
def Pl.ok (p : Pl) : Prop := p.on = false ∧ p.none ∨ p.on = true ∧ may p.n p.a p.c p.k p.l = true

def flatP (ps : List Pl) : List Value := ps.flatMap Pl.cells

theorem flatP_at {ps : List Pl} {i : Nat} {p : Pl} (h : ps[i]? = some p) {j : Nat} (hj : j < 6) : (flatP ps)[i * 6 + j]? = p.cells[j]? := by
  induction ps generalizing i with
  | nil => simp at h
  | cons q ps ih =>
    have hq : q.cells.length = 6 := rfl
    cases i with
    | zero =>
      have : q = p := by simpa using h
      subst this
      simp only [flatP, List.flatMap_cons, Nat.zero_mul, Nat.zero_add]
      rw [List.getElem?_append_left (by omega)]
    | succ i =>
      have := ih (i := i) (by simpa using h)
      simp only [flatP, List.flatMap_cons]
      rw [List.getElem?_append_right (by omega), ← this, flatP]
      congr 1
      omega

theorem flatP_set {ps : List Pl} {i : Nat} {p q : Pl} (h : ps[i]? = some p) : ((((((flatP ps).set (i * 6) (.bool q.on)).set (i * 6 + 1) (.int .i64 q.n)).set (i * 6 + 2) (.int .i64 q.a)).set (i * 6 + 3) (.int .i64 q.c)).set (i * 6 + 4) (.int .i64 q.k)).set (i * 6 + 5) q.s = flatP (ps.set i q) := by
  induction ps generalizing i with
  | nil => simp at h
  | cons r ps ih =>
    cases i with
    | zero => simp [flatP, Pl.cells]
    | succ i =>
      have := ih (i := i) (by simpa using h)
      have e : ∀ (m : Nat) (u : Value) (L : List Value), (r.cells ++ L).set (6 + m) u = r.cells ++ L.set m u := fun m u L => by
        rw [List.set_append_right _ _ (by simp [Pl.cells])]; simp [Pl.cells]
      have e0 : (i + 1) * 6 = 6 + i * 6 := by omega
      simp only [flatP, List.flatMap_cons, List.set_cons_succ] at this ⊢
      rw [e0]
      simp only [Nat.add_assoc, e]
      rw [this]

/-- A roll, as parts. -/
def rollL (g : Nat) (ps : List Pl) : List Comp := blkC g (flatP ps) 148 :: ps.map Pl.part

theorem has_anyR7 {g i : Nat} {ps : List Pl} {p : Pl} {w : World} (h : w.heap[g]? = some (.cells (flatP ps).toArray 148 (0, 0))) (hp : ps[i]? = some p) (hi : i < 8) : Calls Tryz.prog 83 #[.pointer (some ⟨g, 0, none⟩), .int .i64 (i : Int)] w fun e w' => e = .returned (.bool p.on) ∧ w' = w := by
  have c0 : w.cell? ⟨g, i * 6, none⟩ = some (.bool p.on) := by
    rw [cell_at h]
    exact (List.getElem?_toArray ..).trans (flatP_at hp (j := 0) (by omega))
  clear h
  have e : decide ((0 : Int) ≤ (i : Int) ∧ (i : Int) < 8) = true := by simp; omega
  have hI : (i : Int) < 8 := by omega
  go_enter Tryz.func83, Tryz.ntmps83
  go_wp2_with fail
  refine (isClient_any _).mono ?_
  rintro e w1 ⟨rfl, rfl⟩
  rw [e]
  go_wp2
  go_ret
  exact ⟨rfl, rfl⟩

theorem has_none {r : Value} {c : Int} {w : World} (hc : ¬ (0 ≤ c ∧ c < 8)) : Calls Tryz.prog 83 #[r, .int .i64 c] w fun e w' => e = .returned (.bool false) ∧ w' = w := by
  have e : decide ((0 : Int) ≤ c ∧ c < 8) = false := by simpa using hc
  clear hc
  go_enter Tryz.func83, Tryz.ntmps83
  go_wp2_with fail
  refine (isClient_any _).mono ?_
  rintro e w1 ⟨rfl, rfl⟩
  rw [e]
  go_wp2
  go_ret
  exact ⟨rfl, rfl⟩

/-- The row's cells of a place. -/
theorem cells5 {g i : Nat} {ps : List Pl} {p : Pl} {w : World} (h : w.heap[g]? = some (.cells (flatP ps).toArray 148 (0, 0))) (hp : ps[i]? = some p) :
    w.cell? ⟨g, i * 6, none⟩ = some (.bool p.on) ∧ w.cell? ⟨g, i * 6 + 1, none⟩ = some (.int .i64 p.n) ∧ w.cell? ⟨g, i * 6 + 2, none⟩ = some (.int .i64 p.a) ∧ w.cell? ⟨g, i * 6 + 3, none⟩ = some (.int .i64 p.c) ∧ w.cell? ⟨g, i * 6 + 4, none⟩ = some (.int .i64 p.k) ∧ w.cell? ⟨g, i * 6 + 5, none⟩ = some p.s := by
  refine ⟨?_, ?_, ?_, ?_, ?_, ?_⟩
  · rw [cell_at h]; exact (List.getElem?_toArray ..).trans (flatP_at hp (j := 0) (by omega))
  · rw [cell_at h]; exact (List.getElem?_toArray ..).trans (flatP_at hp (j := 1) (by omega))
  · rw [cell_at h]; exact (List.getElem?_toArray ..).trans (flatP_at hp (j := 2) (by omega))
  · rw [cell_at h]; exact (List.getElem?_toArray ..).trans (flatP_at hp (j := 3) (by omega))
  · rw [cell_at h]; exact (List.getElem?_toArray ..).trans (flatP_at hp (j := 4) (by omega))
  · rw [cell_at h]; exact (List.getElem?_toArray ..).trans (flatP_at hp (j := 5) (by omega))

theorem All.place {g i : Nat} {ps : List Pl} {p : Pl} {cs : List Comp} {w : World} (h : All (rollL g ps ++ cs) w) (hp : ps[i]? = some p) : w.heap[g]? = some (.cells (flatP ps).toArray 148 (0, 0)) ∧ Txts w p.s p.l := by
  refine ⟨h.blk (by simp [rollL]), ?_⟩
  have hm : p.part ∈ rollL g ps ++ cs := List.mem_append_left _ (List.mem_cons_of_mem _ (List.mem_map_of_mem (List.mem_of_getElem? hp)))
  have := (h.mem hm).2.1
  exact Txts.of_owns (by have h2 : w.ownsRow 0 9 1 p.s (cellsT p.l).length (cellsT p.l) := this; rw [cellsT_length] at h2; exact h2)

theorem res22 {tmps : Array Value} {w : World} {b : Nat} {n a c k : Int} {s v : Value} (ht : tmps.getD 4 undef = .pointer (some ⟨b, 0, none⟩)) (hv : tmps.getD 5 undef = v) (h : w.heap[b]? = some (.cells #[.int .i64 n, .int .i64 a, .int .i64 c, .int .i64 k, s] 60 (0, 0))) : (results Tryz.f51 tmps).run Tryz.prog w = .ok (.tuple #[rowV n a c k s, v]) w := by
  have hp' : tmps[4]?.getD undef = .pointer (some ⟨b, 0, none⟩) := by simpa using ht
  have hv' : tmps[5]?.getD undef = v := by simpa using hv
  have hres : Tryz.f51.results = #[.cell 4 60, .tmp 5] := rfl
  have x0 : w.cell? ⟨b, 0, none⟩ = some (.int .i64 n) := by rw [cell_at h]; rfl
  have x1 : w.cell? ⟨b, 1, none⟩ = some (.int .i64 a) := by rw [cell_at h]; rfl
  have x2 : w.cell? ⟨b, 2, none⟩ = some (.int .i64 c) := by rw [cell_at h]; rfl
  have x3 : w.cell? ⟨b, 3, none⟩ = some (.int .i64 k) := by rw [cell_at h]; rfl
  have x4 : w.cell? ⟨b, 4, none⟩ = some s := by rw [cell_at h]; rfl
  simp only [results, hres]
  go_simp

set_option maxRecDepth 1000000 in
/-- Last, of a client that has a row. -/
theorem last_on {g i : Nat} {ps : List Pl} {p : Pl} {cs : List Comp} {w : World} (h : All (rollL g ps ++ cs) w) (hp : ps[i]? = some p) (hi : i < 8) (hon : p.on = true) (hl : p.l.length ≤ 1000) : Calls Tryz.prog 51 #[.pointer (some ⟨g, 0, none⟩), .int .i64 (i : Int)] w fun e w' => ∃ ao c', e = .returned (.tuple #[rowV p.n p.a p.c p.k (.slice ao p.l.length c'), .bool true]) ∧ All (ownC 9 (.slice ao p.l.length c') (cellsT p.l) :: (rollL g ps ++ cs)) w' := by
  obtain ⟨hg, hT⟩ := h.place hp
  have HH := hid (hg)
  obtain ⟨c0, c1, c2, c3, c4, c5⟩ := cells5 hg hp
  obtain ⟨ao, cp, e5⟩ := hT.form
  have HT := hid hT
  have HA := hid h
  have HP := hid hp
  have hgl : g < w.heap.size := (Array.getElem?_eq_some_iff.1 hg).1
  have hI : (i : Int) < 8 := by omega
  rw [e5] at c5
  clear h hg hT
  go_enter Tryz.func51, Tryz.ntmps51
  go_wp2_with fail
  refine (has_anyR7 ((Below.heap_alloc _ _ _ hgl).trans HH.out) HP.out hi).mono ?_
  rw [hon]
  rintro e w1 ⟨rfl, rfl⟩
  have HA1 := hid (HA.out.addBlk [.int .i64 0, .int .i64 0, .int .i64 0, .int .i64 0, .slice none 0 0] 60)
  clear HA HH
  go_wp2_with fail
  refine (copied_any HA1.out p.n p.a p.c p.k (e5 ▸ HT.out.alloc _) hl).mono ?_
  rintro e w1 ⟨ao', c', rfl, A2, B2⟩
  have er : w1.heap[w.heap.size]? = some (.cells #[.int .i64 0, .int .i64 0, .int .i64 0, .int .i64 0, .slice none 0 0] 60 (0, 0)) := A2.tail.1.2.1
  have r0 : w1.cell? ⟨w.heap.size, 0, none⟩ = some (.int .i64 0) := by rw [cell_at er]; rfl
  have r1 : w1.cell? ⟨w.heap.size, 1, none⟩ = some (.int .i64 0) := by rw [cell_at er]; rfl
  have r2 : w1.cell? ⟨w.heap.size, 2, none⟩ = some (.int .i64 0) := by rw [cell_at er]; rfl
  have r3 : w1.cell? ⟨w.heap.size, 3, none⟩ = some (.int .i64 0) := by rw [cell_at er]; rfl
  have r4 : w1.cell? ⟨w.heap.size, 4, none⟩ = some (.slice none 0 0) := by rw [cell_at er]; rfl
  have fr0 := free_at er 0
  have fr1 := free_at er 1
  have fr2 := free_at er 2
  have fr3 := free_at er 3
  have fr4 := free_at er 4
  have HA2 := hid A2
  clear er A2 B2 HA1 HT
  go_wp2
  have A3 := ((((HA2.out.swap.setBlk 0 (.int .i64 p.n)).setBlk 1 (.int .i64 p.a)).setBlk 2 (.int .i64 p.c)).setBlk 3 (.int .i64 p.k)).setBlk 4 (.slice ao' p.l.length c')
  refine bodyPost_ret (v := .tuple #[rowV p.n p.a p.c p.k (.slice ao' p.l.length c'), .bool true]) (res22 (b := w.heap.size) rfl rfl A3.1.2.1) rfl ?_
  exact ⟨ao', c', rfl, A3.tail⟩

set_option maxRecDepth 1000000 in
theorem last_off {g : Nat} {c : Int} {ps : List Pl} {cs : List Comp} {w : World} (h : All (rollL g ps ++ cs) w) (hn : ∀ w', All (rollL g ps ++ cs) w' → Calls Tryz.prog 83 #[.pointer (some ⟨g, 0, none⟩), .int .i64 c] w' fun e w2 => e = .returned (.bool false) ∧ w2 = w') : Calls Tryz.prog 51 #[.pointer (some ⟨g, 0, none⟩), .int .i64 c] w fun e w' => e = .returned (.tuple #[rowV 0 0 0 0 (.slice none 0 0), .bool false]) ∧ All (rollL g ps ++ cs) w' := by
  have HN := hid hn
  have HA := hid h
  clear h hn
  go_enter Tryz.func51, Tryz.ntmps51
  go_wp2_with fail
  refine (HN.out _ (HA.out.later (ba _ _))).mono ?_
  rintro e w1 ⟨rfl, hw1⟩
  have HA1 := hid (HA.out.addBlk [.int .i64 0, .int .i64 0, .int .i64 0, .int .i64 0, .slice none 0 0] 60)
  rw [show w.alloc (.cells [.int .i64 0, .int .i64 0, .int .i64 0, .int .i64 0, .slice none 0 0].toArray 60) = w1 from hw1.symm] at HA1
  clear HA hw1
  have er : w1.heap[w.heap.size]? = some (.cells #[.int .i64 0, .int .i64 0, .int .i64 0, .int .i64 0, .slice none 0 0] 60 (0, 0)) := HA1.out.1.2.1
  have r0 : w1.cell? ⟨w.heap.size, 0, none⟩ = some (.int .i64 0) := by rw [cell_at er]; rfl
  have r1 : w1.cell? ⟨w.heap.size, 1, none⟩ = some (.int .i64 0) := by rw [cell_at er]; rfl
  have r2 : w1.cell? ⟨w.heap.size, 2, none⟩ = some (.int .i64 0) := by rw [cell_at er]; rfl
  have r3 : w1.cell? ⟨w.heap.size, 3, none⟩ = some (.int .i64 0) := by rw [cell_at er]; rfl
  have r4 : w1.cell? ⟨w.heap.size, 4, none⟩ = some (.slice none 0 0) := by rw [cell_at er]; rfl
  have fr0 := free_at er 0
  have fr1 := free_at er 1
  have fr2 := free_at er 2
  have fr3 := free_at er 3
  have fr4 := free_at er 4
  clear er
  go_wp2
  have A3 := ((((HA1.out.setBlk 0 (.int .i64 0)).setBlk 1 (.int .i64 0)).setBlk 2 (.int .i64 0)).setBlk 3 (.int .i64 0)).setBlk 4 (.slice none 0 0)
  refine bodyPost_ret (v := .tuple #[rowV 0 0 0 0 (.slice none 0 0), .bool false]) (res22 (b := w.heap.size) rfl rfl A3.1.2.1) rfl ?_
  exact ⟨rfl, A3.tail⟩

theorem new_any {cs : List Comp} {w : World} (h : All cs w) : Calls Tryz.prog 78 #[] w fun e w' => ∃ g, e = .returned (.pointer (some ⟨g, 0, none⟩)) ∧ All (rollL g (List.replicate 8 .zero) ++ cs) w' := by
  have HA := hid h
  clear h
  go_enter Tryz.func78, Tryz.ntmps78
  go_wp2
  go_ret
  refine ⟨_, rfl, ?_⟩
  have A0 : All ((List.replicate 8 Pl.zero).map Pl.part ++ cs) w := (((((((HA.out.addNil (e := 9)).addNil (e := 9)).addNil (e := 9)).addNil (e := 9)).addNil (e := 9)).addNil (e := 9)).addNil (e := 9)).addNil (e := 9)
  exact A0.addBlk (flatP (List.replicate 8 .zero)) 148

end Go.Proofs.YtafickhhdemjnaaGreatDoor
