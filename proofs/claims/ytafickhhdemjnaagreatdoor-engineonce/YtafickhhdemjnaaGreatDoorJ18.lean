import Derived.Test.YtafickhhdemjnaaGreatDoorJ1
import Derived.Test.YtafickhhdemjnaaGreatDoorJ3
import Derived.Laws.BytesArg
import Derived.WideShapes
import Derived.Lib.Strings
import Derived.Laws.AppendOwn
import Derived.RangeFuncOwn
namespace Go.Proofs.YtafickhhdemjnaaGreatDoor
open Go.RowKit
set_option linter.unusedVariables false

theorem cellsB_oneS6 (l : List UInt8) : ∀ u ∈ cellsB l, u.oneCell' = true := by
  intro u hu
  obtain ⟨_, _, rfl⟩ := List.mem_map.1 hu
  rfl
theorem cellsB_inj {a b : List UInt8} (h : cellsB a = cellsB b) : a = b := by
  unfold cellsB at h
  refine (List.map_inj_right ?_).1 h
  intro x y e
  simp only [Value.int.injEq, true_and] at e
  exact UInt8.toNat_inj.1 (by exact_mod_cast e)

/-- A slice of bytes, read in a world; of an empty one's address nothing is known. -/
def ReadsS6 (w : World) (s : Value) (l : List UInt8) : Prop :=
  ∃ ao c, s = .slice ao l.length c ∧ l.length ≤ c ∧ ((l = [] ∧ (ao = none → c = 0)) ∨ ∃ g o, ao = some ⟨g, o, none⟩ ∧ g < w.heap.size ∧ ∀ j u, (cellsB l)[j]? = some u → w.cell? ⟨g, o + j, none⟩ = some u)

theorem ReadsS6.form {w : World} {s : Value} {l : List UInt8} (h : ReadsS6 w s l) : ∃ ao c, s = .slice ao l.length c := by
  obtain ⟨ao, c, rfl, _⟩ := h
  exact ⟨ao, c, rfl⟩

theorem ReadsS6.nil (w : World) : ReadsS6 w (.slice none 0 0) [] := ⟨none, 0, rfl, by simp, Or.inl ⟨rfl, fun _ => rfl⟩⟩

theorem ReadsS6.at_u8 {w : World} {ao : Option Addr} {n c : Nat} {l : List UInt8} (h : ReadsS6 w (.slice ao n c) l) (k : Nat) (hk : k < l.length) : ∃ g o, ao = some ⟨g, o, none⟩ ∧ w.cell? ⟨g, o + k, none⟩ = some (.int .u8 ((l.getD k 0).toNat : Int)) := by
  obtain ⟨ao', c', e, hc, hcase⟩ := h
  simp only [Value.slice.injEq] at e
  obtain ⟨rfl, rfl, rfl⟩ := e
  rcases hcase with ⟨rfl, _⟩ | ⟨g, o, rfl, hg, hcell⟩
  · simp at hk
  · exact ⟨g, o, rfl, hcell k _ (by simp [cellsB, hk, List.getD])⟩

/-- Bytes that are read stay, where their block stays. -/
theorem ReadsS6.kept {w w' : World} {s : Value} {l : List UInt8} (h : ReadsS6 w s l) (hsz : w.heap.size ≤ w'.heap.size) (hb : ∀ k, k < w.heap.size → s.ownBlock = some k → w'.heap[k]? = w.heap[k]?) : ReadsS6 w' s l := by
  obtain ⟨ao, c, rfl, hc, hcase⟩ := h
  refine ⟨ao, c, rfl, hc, ?_⟩
  rcases hcase with hn | ⟨g, o, rfl, hg, hcell⟩
  · exact Or.inl hn
  · refine Or.inr ⟨g, o, rfl, Nat.lt_of_lt_of_le hg hsz, fun j u hu => ?_⟩
    rw [World.cell?_of_block (w := w) (hb g hg rfl)]
    exact hcell j u hu

theorem ReadsS6.below {w w' : World} {s : Value} {l : List UInt8} (h : ReadsS6 w s l) (hw : Below w.heap.size w w') : ReadsS6 w' s l :=
  h.kept hw.size fun k hk _ => hw.block k hk

theorem ReadsS6.drewN {w : World} {s : Value} {l : List UInt8} (h : ReadsS6 w s l) (q : Nat) : ReadsS6 (w.drewN q) s l := h.kept (Nat.le_refl _) (fun _ _ _ => rfl)
theorem ReadsS6.drew {w : World} {s : Value} {l : List UInt8} (h : ReadsS6 w s l) : ReadsS6 w.drew s l := h.kept (Nat.le_refl _) (fun _ _ _ => rfl)

theorem ReadsS6.of_owns {w : World} {base : Nat} {s : Value} {l : List UInt8} (h : w.ownsRow base 5 1 s l.length (cellsB l)) : ReadsS6 w s l := by
  have hc := fun g => h.cells (g := g)
  rcases h.2 with ⟨rfl, e⟩ | ⟨g, cap, cur, rfl, hg, hgg, hn, _⟩
  · exact ⟨none, 0, by rw [e], by omega, Or.inl ⟨List.eq_nil_of_length_eq_zero e, fun _ => rfl⟩⟩
  · refine ⟨_, cap, rfl, hn, Or.inr ⟨g, 0, rfl, (Array.getElem?_eq_some_iff.1 hgg).1, fun j u hu => ?_⟩⟩
    have := hc g rfl j u hu
    simpa [Addr.add_lit] using this

/-- A text of bytes. -/
def txt (l : List UInt8) : ByteArray := ⟨l.toArray⟩
theorem txt_inj {a b : List UInt8} (h : txt a = txt b) : a = b := by
  simpa [txt] using h

theorem strOf_bytes (l : List UInt8) : strOfNums (l.map fun b => (b.toNat : Int)) = txt l := by
  unfold strOfNums txt
  congr 1
  simp only [List.map_map]
  congr 1
  conv => rhs; rw [← List.map_id l]
  refine List.map_congr_left (fun b _ => ?_)
  simp

/-- string(b). -/
theorem conv_reads {w : World} {s : Value} {l : List UInt8} (h : ReadsS6 w s l) : (convert 76 9 s).run Tryz.prog w = .ok (.string (txt l)) w := by
  obtain ⟨ao, c, rfl, hc, hcase⟩ := h
  rcases hcase with ⟨rfl, h0⟩ | ⟨g, o, rfl, hg, hcell⟩
  · rw [run_convert_bytes_string w 76 9 5 ao _ c Tryz.underlying76 Tryz.underlying5 Tryz.underlying9]
    cases ao <;> simp [Conv.bytesToString, loadCells]
    all_goals rfl
  · have := run_convert_bytes_arg (P := Tryz.prog) w 76 5 Tryz.underlying76 Tryz.underlying5 g o l.length c (l.map fun b => (b.toNat : Int)) (by simp) (fun i hi => by
      refine hcell i _ ?_
      simp [cellsB, List.getElem?_eq_getElem hi, List.getD]) 9 Tryz.underlying9
    rw [strOf_bytes] at this
    exact this

set_option maxHeartbeats 1000000 in
theorem Equal_any {w : World} {s t : Value} {l m : List UInt8} (hs : ReadsS6 w s l) (ht : ReadsS6 w t m) : Calls Tryz.prog 160 #[s, t] w fun e w' => e = .returned (.bool (decide (l = m))) ∧ w' = w := by
  have g1 := conv_reads hs
  have g2 := conv_reads ht
  obtain ⟨a1, c1, rfl⟩ := hs.form
  obtain ⟨a2, c2, rfl⟩ := ht.form
  have e : ((txt l).toList == (txt m).toList) = decide (l = m) := by
    rw [Lib.toList_data, Lib.toList_data]
    by_cases h : l = m
    · subst h; simp
    · have : ¬ (txt l).data = (txt m).data := fun e => h (by simpa [txt] using e)
      simp [h, this]
  generalize l.length = n1 at *
  generalize l = l1, m = m1 at *
  clear hs ht
  go_enter Tryz.func160, Tryz.ntmps160
  go_wp2
  go_ret
  exact ⟨by simp, rfl⟩

set_option maxHeartbeats 1000000 in
theorem Clone_any {w : World} {s : Value} {l : List UInt8} (hs : ReadsS6 w s l) (hl : l.length ≤ 140737488355328) : Calls Tryz.prog 115 #[s] w fun e w' => ∃ v, e = .returned v ∧ w'.ownsRow w.heap.size 5 1 v l.length (cellsB l) ∧ Below w.heap.size w w' := by
  obtain ⟨ao, c, rfl, hc, hcase⟩ := hs
  obtain ⟨i0, hi, hz0, hz1, hz2⟩ := info_parts Tryz.info5
  have t36 := Tryz.underlying76
  have q36 : ∀ (w : World) (a : Option Addr) (n c n' c' : Nat), (binOp .eql 76 (.slice a n c) (.slice none n' c')).run Tryz.prog w = .ok (.bool a.isNone) w := fun w a n c n' c' => Lib.run_eql_slice_nil w _ _ a n c n' c' Tryz.underlying76
  cases ao with
  | none =>
    have h0 : l = [] := by
      rcases hcase with h | ⟨g, o, e, _⟩
      · exact h.1
      · cases e
    subst h0
    go_enter Tryz.func115, Tryz.ntmps115
    go_wp2
    go_ret
    exact ⟨_, rfl, ⟨by simp [cellsB], Or.inl ⟨rfl, rfl⟩⟩, Below.refl _ _⟩
  | some a =>
    have A : Hid (∀ j u, (cellsB l)[j]? = some u → w.cell? (a.add j) = some u) := by
      rcases hcase with h | ⟨g, o, e, _, h⟩
      · exact hid (fun j u hu => by rw [h.1] at hu; simp [cellsB] at hu)
      · cases e
        exact hid (by simpa [Addr.add_lit] using h)
    have L : Hid (l.length ≤ 140737488355328) := hid hl
    have Q : Hid (cellsB l = cellsB l ∧ (cellsB l).length = l.length) := hid ⟨rfl, cellsB_length l⟩
    clear hcase hl hc
    have O := cellsB_oneS6 l
    obtain ⟨n, hn⟩ : ∃ n, Hid (n = l.length) := ⟨_, hid rfl⟩
    rw [← hn.out]
    generalize hxs : cellsB l = xs at *
    have Q2 : Hid (xs.length = n) := hid (by rw [hn.out]; exact Q.out.2)
    have L2 : Hid (n ≤ 140737488355328) := hid (by rw [hn.out]; exact L.out)
    clear hxs Q L hn
    go_enter Tryz.func115, Tryz.ntmps115
    go_wp2_with (at_builtin; refine wpList_append_own _ rfl _ _ 76 rfl w.heap.size 5 i0 (.int .u8 0) 1 1 t36 hi hz0 hz1 hz2 rfl (by decide) _ _ _ rfl (World.ownsRow_made w #[] 0 (Nat.le_refl _) (Nat.zero_le _) rfl) a n c xs rfl ?qc1 ?qc2 ?qc3 ?qc4 ?qc5 ?qc6 ?_)
    case qc1 => simp; exact Q2.out
    case qc2 =>
      intro j u hj
      exact Lib.cell?_alloc_some _ (A.out j u hj)
    case qc3 => exact O
    case qc4 => have := L2.out; unfold maxLen; omega
    case qc5 => have := L2.out; omega
    case qc6 => simp
    intro v' w1 hown hgrow hnil
    go_wp2
    go_ret
    refine ⟨v', rfl, ?_, ?_⟩
    · simpa using hown
    · exact ((Below.refl _ w).alloc (Nat.le_refl _) _).grown hgrow (by simp) (by intro k hk; simp [Value.ownBlock] at hk; omega)

end Go.Proofs.YtafickhhdemjnaaGreatDoor

namespace Go.Proofs.YtafickhhdemjnaaGreatDoor
open Go.RowKit
set_option linter.unusedVariables false

/-- Nodes by their numbers: a stamp, the slice, its bytes. -/
abbrev Nodes := Nat → Nat × Value × List UInt8

/-- A tree as it is read at a place. -/
structure View (w : World) (g o lv : Nat) (N : Nodes) : Prop where
  leaves : w.cell? ⟨g, o, none⟩ = some (.int .i64 (lv : Int))
  node : ∀ k, k < 128 → ∃ p, w.cell? ⟨g, o + 1 + k / 8, none⟩ = some (.pointer (some ⟨p, 0, none⟩)) ∧ w.cell? ⟨p, k % 8 * 2, none⟩ = some (.int .i64 ((N k).1 : Int)) ∧ w.cell? ⟨p, k % 8 * 2 + 1, none⟩ = some (N k).2.1 ∧ ReadsS6 w (N k).2.1 (N k).2.2

theorem lt_of_cell {w : World} {g j : Nat} {u : Value} (h : w.cell? ⟨g, j, none⟩ = some u) : g < w.heap.size := by
  unfold World.cell? at h
  rcases Nat.lt_or_ge g w.heap.size with hl | hl
  · exact hl
  · rw [Array.getElem?_eq_none hl] at h; cases h

theorem View.below {w w' : World} {g o lv : Nat} {N : Nodes} (h : View w g o lv N) (hb : Below w.heap.size w w') : View w' g o lv N := by
  refine ⟨cell_under hb (lt_of_cell h.leaves) h.leaves, fun k hk => ?_⟩
  obtain ⟨p, h1, h2, h3, h4⟩ := h.node k hk
  exact ⟨p, cell_under hb (lt_of_cell h1) h1, cell_under hb (lt_of_cell h2) h2, cell_under hb (lt_of_cell h3) h3, h4.below hb⟩

theorem tdiv8 (k : Nat) : Int.tdiv (k : Int) 8 = ((k / 8 : Nat) : Int) := by
  rw [Int.tdiv_eq_ediv_of_nonneg (by omega)]; rfl
theorem tmod8 (k : Nat) : Int.tmod (k : Int) 8 = ((k % 8 : Nat) : Int) := by
  rw [Int.tmod_eq_emod_of_nonneg (by omega)]; rfl

set_option maxHeartbeats 1000000 in
theorem node_any {w : World} {g o k p : Nat} (hk : k < 128) (hp : w.cell? ⟨g, o + 1 + k / 8, none⟩ = some (.pointer (some ⟨p, 0, none⟩))) : Calls Tryz.prog 113 #[.pointer (some ⟨g, o, none⟩), .int .i64 (k : Int)] w fun e w' => e = .returned (.pointer (some ⟨p, k % 8 * 2, none⟩)) ∧ w' = w := by
  have d := tdiv8 k
  have m := tmod8 k
  have hq : k / 8 < 16 := by omega
  have hr : k % 8 < 8 := by omega
  obtain ⟨q, hq'⟩ : ∃ q, Hid (q = k / 8) := ⟨_, hid rfl⟩
  obtain ⟨r, hr'⟩ : ∃ r, Hid (r = k % 8) := ⟨_, hid rfl⟩
  rw [← hq'.out] at d hp hq
  rw [← hr'.out] at m hr ⊢
  have b1 : (q : Int) < 16 := by omega
  have b2 : (r : Int) < 8 := by omega
  go_enter Tryz.func113, Tryz.ntmps113
  go_wp2
  go_ret
  exact ⟨rfl, rfl⟩

set_option maxHeartbeats 1000000 in
theorem isLeaf_any {w : World} {g o k lv : Nat} (h : w.cell? ⟨g, o, none⟩ = some (.int .i64 (lv : Int))) : Calls Tryz.prog 114 #[.pointer (some ⟨g, o, none⟩), .int .i64 (k : Int)] w fun e w' => e = .returned (.bool (decide (lv ≤ k))) ∧ w' = w := by
  go_enter Tryz.func114, Tryz.ntmps114
  go_wp2
  go_ret
  exact ⟨by simp, rfl⟩

set_option maxHeartbeats 1000000 in
theorem leaf_any {w : World} {g o k p lv : Nat} (hk : lv + k < 128) (h : w.cell? ⟨g, o, none⟩ = some (.int .i64 (lv : Int))) (hp : w.cell? ⟨g, o + 1 + (lv + k) / 8, none⟩ = some (.pointer (some ⟨p, 0, none⟩))) : Calls Tryz.prog 161 #[.pointer (some ⟨g, o, none⟩), .int .i64 (k : Int)] w fun e w' => e = .returned (.pointer (some ⟨p, (lv + k) % 8 * 2, none⟩)) ∧ w' = w := by
  have H := hid (node_any hk hp)
  have hw : IntKind.i64.wrap ((lv : Int) + (k : Int)) = ((lv + k : Nat) : Int) := by rw [IntKind.wrap_i64]; omega
  generalize lv + k = n at *
  clear hk hp
  go_enter Tryz.func161, Tryz.ntmps161
  go_wp2_with (go_at_call 113; refine H.out.mono ?_; rintro e w' ⟨rfl, rfl⟩)
  go_ret
  exact ⟨rfl, rfl⟩

set_option maxHeartbeats 1000000 in
theorem last_any {w : World} {g o p x : Nat} (hp : w.cell? ⟨g, o + 1, none⟩ = some (.pointer (some ⟨p, 0, none⟩))) (hx : w.cell? ⟨p, 2, none⟩ = some (.int .i64 (x : Int))) : Calls Tryz.prog 188 #[.pointer (some ⟨g, o, none⟩)] w fun e w' => e = .returned (.int .i64 (x : Int)) ∧ w' = w := by
  have H := hid (node_any (w := w) (g := g) (o := o) (k := 1) (p := p) (by omega) hp)
  go_enter Tryz.func188, Tryz.ntmps188
  go_wp2_with (go_at_call 113; refine H.out.mono ?_; rintro e w' ⟨rfl, rfl⟩)
  go_ret
  exact ⟨rfl, rfl⟩

set_option maxHeartbeats 1000000 in
theorem Last_any {w : World} {g p x : Nat} (hp : w.cell? ⟨g, 2, none⟩ = some (.pointer (some ⟨p, 0, none⟩))) (hx : w.cell? ⟨p, 2, none⟩ = some (.int .i64 (x : Int))) : Calls Tryz.prog 159 #[.pointer (some ⟨g, 0, none⟩)] w fun e w' => e = .returned (.int .i64 (x : Int)) ∧ w' = w := by
  have H := hid (last_any (w := w) (g := g) (o := 1) (p := p) hp hx)
  go_enter Tryz.func159, Tryz.ntmps159
  go_wp2_with (go_at_call 188; refine H.out.mono ?_; rintro e w' ⟨rfl, rfl⟩)
  go_ret
  exact ⟨rfl, rfl⟩

set_option maxHeartbeats 1000000 in
theorem has_anyS6 {w : World} {g n : Nat} (num : Int) (h : w.cell? ⟨g, 0, none⟩ = some (.int .i64 (n : Int))) : Calls Tryz.prog 157 #[.pointer (some ⟨g, 0, none⟩), .int .i64 num] w fun e w' => e = .returned (.bool (decide (0 ≤ num ∧ num < n))) ∧ w' = w := by
  by_cases h0 : 0 ≤ num
  · have d0 : decide (0 ≤ num) = true := by simpa using h0
    go_enter Tryz.func157, Tryz.ntmps157
    go_wp2
    go_ret
    exact ⟨by simp [h0], rfl⟩
  · have d0 : decide (0 ≤ num) = false := by simpa using h0
    go_enter Tryz.func157, Tryz.ntmps157
    go_wp2
    go_ret
    exact ⟨by simp, rfl⟩

set_option maxHeartbeats 1000000 in
theorem isStamp_any {w : World} (at_ : Int) : Calls Tryz.prog 158 #[.int .i64 at_] w fun e w' => e = .returned (.bool (decide (1 ≤ at_ ∧ at_ ≤ 1099511627776))) ∧ w' = w := by
  by_cases h0 : 1 ≤ at_
  · have d0 : decide (1 ≤ at_) = true := by simpa using h0
    go_enter Tryz.func158, Tryz.ntmps158
    go_wp2
    go_ret
    exact ⟨by simp [h0], rfl⟩
  · have d0 : decide (1 ≤ at_) = false := by simpa using h0
    go_enter Tryz.func158, Tryz.ntmps158
    go_wp2
    go_ret
    exact ⟨by simp, rfl⟩

end Go.Proofs.YtafickhhdemjnaaGreatDoor

namespace Go.Proofs.YtafickhhdemjnaaGreatDoor
open Go.RowKit
set_option linter.unusedVariables false

/-- Eight nodes' cells. -/
def Shape (vs : List Value) : Prop := vs.length = 16 ∧ ∀ i, i < 8 → ∃ x a l c, vs[2 * i]? = some (.int .i64 x) ∧ vs[2 * i + 1]? = some (.slice a l c)

theorem Shape.list {vs : List Value} (h : Shape vs) : ∃ x0 a0 l0 c0 x1 a1 l1 c1 x2 a2 l2 c2 x3 a3 l3 c3 x4 a4 l4 c4 x5 a5 l5 c5 x6 a6 l6 c6 x7 a7 l7 c7, vs = [.int .i64 x0, .slice a0 l0 c0, .int .i64 x1, .slice a1 l1 c1, .int .i64 x2, .slice a2 l2 c2, .int .i64 x3, .slice a3 l3 c3, .int .i64 x4, .slice a4 l4 c4, .int .i64 x5, .slice a5 l5 c5, .int .i64 x6, .slice a6 l6 c6, .int .i64 x7, .slice a7 l7 c7] := by
  obtain ⟨hl, h⟩ := h
  obtain ⟨x0, a0, l0, c0, e0, f0⟩ := h 0 (by decide)
  obtain ⟨x1, a1, l1, c1, e1, f1⟩ := h 1 (by decide)
  obtain ⟨x2, a2, l2, c2, e2, f2⟩ := h 2 (by decide)
  obtain ⟨x3, a3, l3, c3, e3, f3⟩ := h 3 (by decide)
  obtain ⟨x4, a4, l4, c4, e4, f4⟩ := h 4 (by decide)
  obtain ⟨x5, a5, l5, c5, e5, f5⟩ := h 5 (by decide)
  obtain ⟨x6, a6, l6, c6, e6, f6⟩ := h 6 (by decide)
  obtain ⟨x7, a7, l7, c7, e7, f7⟩ := h 7 (by decide)
  match vs, hl with
  | [v0, v1, v2, v3, v4, v5, v6, v7, v8, v9, v10, v11, v12, v13, v14, v15], _ =>
    simp only [Nat.reduceMul, Nat.reduceAdd, List.getElem?_cons_zero, List.getElem?_cons_succ, Option.some.injEq] at e0 f0 e1 f1 e2 f2 e3 f3 e4 f4 e5 f5 e6 f6 e7 f7
    subst e0 f0 e1 f1 e2 f2 e3 f3 e4 f4 e5 f5 e6 f6 e7 f7
    exact ⟨_, _, _, _, _, _, _, _, _, _, _, _, _, _, _, _, _, _, _, _, _, _, _, _, _, _, _, _, _, _, _, _, rfl⟩

set_option maxHeartbeats 4000000 in
theorem write_any {w : World} {g o k p : Nat} {a : Int} {ao : Option Addr} {l c : Nat} {vs : List Value} (hk : k < 128) (hgw : g < w.heap.size) (hp : w.cell? ⟨g, o + 1 + k / 8, none⟩ = some (.pointer (some ⟨p, 0, none⟩))) (hf : w.frozen? ⟨g, o + 1 + k / 8, none⟩ = false)
    (hv : w.heap[p]? = some (.cells vs.toArray 222 (0, 0))) (hs : Shape vs) :
    Calls Tryz.prog 195 #[.pointer (some ⟨g, o, none⟩), .int .i64 (k : Int), .agg #[.int .i64 a, .slice ao l c]] w fun e w' => (∃ v, e = .returned v) ∧
      w' = ((w.setCell ⟨g, o + 1 + k / 8, none⟩ (.pointer (some ⟨w.heap.size + 1, 0, none⟩))).alloc (.cells #[.int .i64 a, .slice ao l c] 186)).alloc (.cells ((vs.set (k % 8 * 2) (.int .i64 a)).set (k % 8 * 2 + 1) (.slice ao l c)).toArray 222) := by
  have d := tdiv8 k
  have m := tmod8 k
  have hq : k / 8 < 16 := by omega
  have hr : k % 8 < 8 := by omega
  obtain ⟨q, hq'⟩ : ∃ q, Hid (q = k / 8) := ⟨_, hid rfl⟩
  obtain ⟨r, hr'⟩ : ∃ r, Hid (r = k % 8) := ⟨_, hid rfl⟩
  rw [← hq'.out] at d hp hq hf ⊢
  rw [← hr'.out] at m hr ⊢
  have b1 : (q : Int) < 16 := by omega
  have b2 : (r : Int) < 8 := by omega
  have hpw : p < w.heap.size := (Array.getElem?_eq_some_iff.1 hv).1
  obtain ⟨x0, a0, l0, c0, x1, a1, l1, c1, x2, a2, l2, c2, x3, a3, l3, c3, x4, a4, l4, c4, x5, a5, l5, c5, x6, a6, l6, c6, x7, a7, l7, c7, rfl⟩ := hs.list
  have h0 : w.cell? ⟨p, 0, none⟩ = some (.int .i64 x0) := cell_at hv 0
  have h1 : w.cell? ⟨p, 1, none⟩ = some (.slice a0 l0 c0) := cell_at hv 1
  have h2 : w.cell? ⟨p, 2, none⟩ = some (.int .i64 x1) := cell_at hv 2
  have h3 : w.cell? ⟨p, 3, none⟩ = some (.slice a1 l1 c1) := cell_at hv 3
  have h4 : w.cell? ⟨p, 4, none⟩ = some (.int .i64 x2) := cell_at hv 4
  have h5 : w.cell? ⟨p, 5, none⟩ = some (.slice a2 l2 c2) := cell_at hv 5
  have h6 : w.cell? ⟨p, 6, none⟩ = some (.int .i64 x3) := cell_at hv 6
  have h7 : w.cell? ⟨p, 7, none⟩ = some (.slice a3 l3 c3) := cell_at hv 7
  have h8 : w.cell? ⟨p, 8, none⟩ = some (.int .i64 x4) := cell_at hv 8
  have h9 : w.cell? ⟨p, 9, none⟩ = some (.slice a4 l4 c4) := cell_at hv 9
  have h10 : w.cell? ⟨p, 10, none⟩ = some (.int .i64 x5) := cell_at hv 10
  have h11 : w.cell? ⟨p, 11, none⟩ = some (.slice a5 l5 c5) := cell_at hv 11
  have h12 : w.cell? ⟨p, 12, none⟩ = some (.int .i64 x6) := cell_at hv 12
  have h13 : w.cell? ⟨p, 13, none⟩ = some (.slice a6 l6 c6) := cell_at hv 13
  have h14 : w.cell? ⟨p, 14, none⟩ = some (.int .i64 x7) := cell_at hv 14
  have h15 : w.cell? ⟨p, 15, none⟩ = some (.slice a7 l7 c7) := cell_at hv 15
  clear hv hs hq' hr' hk
  have hcs : r = 0 ∨ r = 1 ∨ r = 2 ∨ r = 3 ∨ r = 4 ∨ r = 5 ∨ r = 6 ∨ r = 7 := by omega
  clear b2 hr
  rcases hcs with rfl | rfl | rfl | rfl | rfl | rfl | rfl | rfl
  · have m : Int.tmod (k : Int) 8 = 0 := m
    go_enter Tryz.func195, Tryz.ntmps195
    go_wp2
    go_end0
    exact ⟨⟨_, rfl⟩, rfl⟩
  · have m : Int.tmod (k : Int) 8 = 1 := m
    go_enter Tryz.func195, Tryz.ntmps195
    go_wp2
    go_end0
    exact ⟨⟨_, rfl⟩, rfl⟩
  · have m : Int.tmod (k : Int) 8 = 2 := m
    go_enter Tryz.func195, Tryz.ntmps195
    go_wp2
    go_end0
    exact ⟨⟨_, rfl⟩, rfl⟩
  · have m : Int.tmod (k : Int) 8 = 3 := m
    go_enter Tryz.func195, Tryz.ntmps195
    go_wp2
    go_end0
    exact ⟨⟨_, rfl⟩, rfl⟩
  · have m : Int.tmod (k : Int) 8 = 4 := m
    go_enter Tryz.func195, Tryz.ntmps195
    go_wp2
    go_end0
    exact ⟨⟨_, rfl⟩, rfl⟩
  · have m : Int.tmod (k : Int) 8 = 5 := m
    go_enter Tryz.func195, Tryz.ntmps195
    go_wp2
    go_end0
    exact ⟨⟨_, rfl⟩, rfl⟩
  · have m : Int.tmod (k : Int) 8 = 6 := m
    go_enter Tryz.func195, Tryz.ntmps195
    go_wp2
    go_end0
    exact ⟨⟨_, rfl⟩, rfl⟩
  · have m : Int.tmod (k : Int) 8 = 7 := m
    go_enter Tryz.func195, Tryz.ntmps195
    go_wp2
    go_end0
    exact ⟨⟨_, rfl⟩, rfl⟩

end Go.Proofs.YtafickhhdemjnaaGreatDoor

namespace Go.Proofs.YtafickhhdemjnaaGreatDoor
open Go.RowKit
set_option linter.unusedVariables false

/-- Blocks that are never written again. -/
abbrev Pool := List (Nat × Obj)
def poolC (P : Pool) : Comp := ⟨fun w => ∀ x ∈ P, w.heap[x.1]? = some x.2 ∧ x.2.isCells = true, P.map (·.1)⟩
theorem poolC_good (P : Pool) : (poolC P).Good := fun w w' h _ hb x hx => ⟨(hb x.1 (List.mem_map.2 ⟨x, hx, rfl⟩)).trans (h x hx).1, (h x hx).2⟩
theorem All.poolIn {P : Pool} {cs : List Comp} {w : World} (h : All (poolC P :: cs) w) {x : Nat × Obj} (hx : x ∈ P) : w.heap[x.1]? = some x.2 := (h.1.2.1 x hx).1
/-- The pool's blocks hold cells. -/
theorem poolC_cells {P : Pool} {W : World} (h : (poolC P).holds W) : ∀ k ∈ (poolC P).fp, ∃ o : Obj, W.heap[k]? = some o ∧ o.isCells = true := by
  intro k hk
  obtain ⟨x, hx, rfl⟩ := List.mem_map.1 hk
  exact ⟨_, (h x hx).1, (h x hx).2⟩

/-- Of two neighbouring parts the pool takes the second in. -/
theorem All.poolTake {P : Pool} {g : Nat} {vs : List Value} {t : TypeId} {cs : List Comp} {w : World} (h : All (blkC g vs t :: poolC P :: cs) w) : All (poolC ((g, .cells vs.toArray t (0, 0)) :: P) :: cs) w := by
  obtain ⟨⟨g1, h1, l1⟩, d1, ⟨g2, h2, l2⟩, d2, h3⟩ := h
  refine ⟨⟨poolC_good _, fun x hx => ?_, fun k hk => ?_⟩, fun d hd k hk => ?_, h3⟩
  · rcases List.mem_cons.1 hx with rfl | hx
    · exact ⟨h1, rfl⟩
    · exact h2 x hx
  · simp only [poolC, List.map_cons, List.mem_cons] at hk
    rcases hk with rfl | hk
    · exact l1 k (by simp [blkC])
    · exact l2 k hk
  · simp only [poolC, List.map_cons, List.mem_cons] at hk
    rcases hk with rfl | hk
    · exact d1 d (by simp [hd]) k (by simp [blkC])
    · exact d2 d hd k hk

/-- Bytes in the pool. -/
def DatP (P : Pool) (v : Value) (l : List UInt8) : Prop :=
  (v = .slice none 0 0 ∧ l = []) ∨ ∃ g cap cur, v = .slice (some ⟨g, 0, none⟩) l.length cap ∧ l.length ≤ cap ∧ (g, Obj.cells cur 5 (0, 0)) ∈ P ∧ cur.toList.take l.length = cellsB l

theorem DatP.mono {P Q : Pool} {v : Value} {l : List UInt8} (h : DatP P v l) (hs : ∀ x ∈ P, x ∈ Q) : DatP Q v l := by
  rcases h with h | ⟨g, cap, cur, e, hc, hm, ht⟩
  · exact Or.inl h
  · exact Or.inr ⟨g, cap, cur, e, hc, hs _ hm, ht⟩

theorem DatP.form {P : Pool} {v : Value} {l : List UInt8} (h : DatP P v l) : ∃ ao n c, v = .slice ao n c := by
  rcases h with ⟨rfl, _⟩ | ⟨g, cap, cur, e, _⟩
  · exact ⟨_, _, _, rfl⟩
  · exact ⟨_, _, _, e⟩

theorem DatP.reads {P : Pool} {v : Value} {l : List UInt8} {w : World} (h : DatP P v l) (hp : ∀ x ∈ P, w.heap[x.1]? = some x.2) : ReadsS6 w v l := by
  rcases h with ⟨rfl, rfl⟩ | ⟨g, cap, cur, rfl, hc, hm, ht⟩
  · exact ReadsS6.nil w
  · have hg := hp _ hm
    refine ⟨_, cap, rfl, hc, Or.inr ⟨g, 0, rfl, (Array.getElem?_eq_some_iff.1 hg).1, fun j u hu => ?_⟩⟩
    rw [cell_at hg, Nat.zero_add, ← Array.getElem?_toList]
    have hj := (List.getElem?_eq_some_iff.1 hu).1
    rw [cellsB_length] at hj
    rw [← ht, List.getElem?_take, if_pos hj] at hu
    exact hu

/-- What a clone made goes into the pool. -/
theorem All.poolRow {P : Pool} {cs : List Comp} {w w' : World} {v : Value} {l : List UInt8} (h : All (poolC P :: cs) w) (ho : w'.ownsRow w.heap.size 5 1 v l.length (cellsB l)) (hb : Below w.heap.size w w') : ∃ Q, All (poolC Q :: cs) w' ∧ DatP Q v l ∧ ∀ x ∈ P, x ∈ Q := by
  have h' := h.later hb
  rcases ho.2 with ⟨rfl, e⟩ | ⟨g, cap, cur, rfl, hg, hgg, hn, hm, hcs, ht⟩
  · exact ⟨P, h', Or.inl ⟨rfl, List.eq_nil_of_length_eq_zero e⟩, fun x hx => hx⟩
  · refine ⟨(g, .cells cur 5 (0, 0)) :: P, ?_, Or.inr ⟨g, cap, cur, rfl, hn, by simp, by simpa using ht⟩, fun x hx => by simp [hx]⟩
    have hadd : All (blkC g cur.toList 5 :: poolC P :: cs) w' := h.add (Fr.below hb) (blkC_good _ _ _) (by simpa [blkC] using hgg) (fun k hk => by
      have : k = g := by simpa [blkC] using hk
      subst this
      exact ⟨hg, (Array.getElem?_eq_some_iff.1 hgg).1⟩)
    simpa using hadd.poolTake

/-- A tree's pieces in the pool. -/
structure Tr (P : Pool) (ps : List Nat) (N : Nodes) : Prop where
  len : ps.length = 16
  pc : ∀ j p, ps[j]? = some p → ∃ vs : List Value, (p, Obj.cells vs.toArray 222 (0, 0)) ∈ P ∧ vs.length = 16 ∧ ∀ i, i < 8 → vs[2 * i]? = some (.int .i64 ((N (8 * j + i)).1 : Int)) ∧ vs[2 * i + 1]? = some (N (8 * j + i)).2.1
  dat : ∀ k, k < 128 → DatP P (N k).2.1 (N k).2.2

def ptr (p : Nat) : Value := .pointer (some ⟨p, 0, none⟩)
/-- The cells of a tree, behind what lies ahead of it. -/
def treeL (pre : List Value) (lv : Nat) (ps : List Nat) : List Value := pre ++ .int .i64 (lv : Int) :: ps.map ptr

theorem treeL_leaves (pre : List Value) (lv : Nat) (ps : List Nat) : (treeL pre lv ps)[pre.length]? = some (.int .i64 (lv : Int)) := by simp [treeL]
theorem treeL_ptr {pre : List Value} {lv : Nat} {ps : List Nat} {j p : Nat} (h : ps[j]? = some p) : (treeL pre lv ps)[pre.length + 1 + j]? = some (.pointer (some ⟨p, 0, none⟩)) := by
  unfold treeL
  rw [List.getElem?_append_right (by omega), show pre.length + 1 + j - pre.length = j + 1 by omega, List.getElem?_cons_succ, List.getElem?_map, h]
  rfl
theorem treeL_set {pre : List Value} {lv : Nat} {ps : List Nat} {j p : Nat} : (treeL pre lv ps).set (pre.length + 1 + j) (.pointer (some ⟨p, 0, none⟩)) = treeL pre lv (ps.set j p) := by
  unfold treeL
  rw [List.set_append_right _ _ (by omega), show pre.length + 1 + j - pre.length = j + 1 by omega, List.set_cons_succ, List.map_set]
  rfl

theorem Tr.get {P : Pool} {ps : List Nat} {N : Nodes} (h : Tr P ps N) {k : Nat} (hk : k < 128) : ∃ p vs, ps[k / 8]? = some p ∧ (p, Obj.cells (List.toArray vs) 222 (0, 0)) ∈ P ∧ Shape vs ∧ vs[k % 8 * 2]? = some (.int .i64 ((N k).1 : Int)) ∧ vs[k % 8 * 2 + 1]? = some (N k).2.1 ∧ ∀ i, i < 8 → vs[2 * i]? = some (.int .i64 ((N (8 * (k / 8) + i)).1 : Int)) ∧ vs[2 * i + 1]? = some (N (8 * (k / 8) + i)).2.1 := by
  have hl := h.len
  obtain ⟨p, hp⟩ : ∃ p, ps[k / 8]? = some p := ⟨_, List.getElem?_eq_getElem (by omega)⟩
  obtain ⟨vs, hm, hvl, hv⟩ := h.pc _ _ hp
  have := hv (k % 8) (by omega)
  rw [show 8 * (k / 8) + k % 8 = k by omega, show 2 * (k % 8) = k % 8 * 2 by omega] at this
  refine ⟨p, vs, hp, hm, ⟨hvl, fun i hi => ?_⟩, this.1, this.2, hv⟩
  obtain ⟨ao, n, c, e⟩ := (h.dat (8 * (k / 8) + i) (by omega)).form
  exact ⟨_, ao, n, c, (hv i hi).1, by rw [(hv i hi).2, e]⟩

theorem Tr.view {P : Pool} {ps : List Nat} {N : Nodes} (h : Tr P ps N) {w : World} {g lv : Nat} {pre : List Value} {t : TypeId} (hp : ∀ x ∈ P, w.heap[x.1]? = some x.2) (hg : w.heap[g]? = some (.cells (treeL pre lv ps).toArray t (0, 0))) : View w g pre.length lv N := by
  refine ⟨by rw [cell_at hg]; simpa using treeL_leaves pre lv ps, fun k hk => ?_⟩
  obtain ⟨p, vs, e1, e2, _, e3, e4, _⟩ := h.get hk
  have hb := hp _ e2
  exact ⟨p, by rw [cell_at hg]; simpa using treeL_ptr e1, by rw [cell_at hb]; simpa using e3, by rw [cell_at hb]; simpa using e4, (h.dat k hk).reads hp⟩

/-- One node is another. -/
def upd (N : Nodes) (k : Nat) (x : Nat × Value × List UInt8) : Nodes := fun j => if j = k then x else N j

theorem Tr.upd {P : Pool} {ps : List Nat} {N : Nodes} (h : Tr P ps N) {k q : Nat} (hk : k < 128) {Q : Pool} (hs : ∀ x ∈ P, x ∈ Q) {vs : List Value} (hvl : vs.length = 16) (hv : ∀ i, i < 8 → vs[2 * i]? = some (.int .i64 ((N (8 * (k / 8) + i)).1 : Int)) ∧ vs[2 * i + 1]? = some (N (8 * (k / 8) + i)).2.1)
    {a : Nat} {v : Value} {l : List UInt8} (hq : (q, Obj.cells ((vs.set (k % 8 * 2) (.int .i64 (a : Int))).set (k % 8 * 2 + 1) v).toArray 222 (0, 0)) ∈ Q) (hd : DatP Q v l) : Tr Q (ps.set (k / 8) q) (upd N k (a, v, l)) := by
  refine ⟨by simp [h.len], fun j p hj => ?_, fun j hj => ?_⟩
  · by_cases e : j = k / 8
    · subst e
      have hlt : k / 8 < ps.length := by have := h.len; omega
      rw [List.getElem?_set_self hlt] at hj
      cases hj
      refine ⟨_, hq, by simp [hvl], fun i hi => ?_⟩
      obtain ⟨h1, h2⟩ := hv i hi
      by_cases e2 : i = k % 8
      · subst e2
        have e3 : 8 * (k / 8) + k % 8 = k := by omega
        rw [e3]
        simp only [Go.Proofs.YtafickhhdemjnaaGreatDoor.upd, if_true]
        constructor
        · rw [List.getElem?_set_ne (by omega), show 2 * (k % 8) = k % 8 * 2 by omega, List.getElem?_set_self (by omega)]
        · rw [show 2 * (k % 8) + 1 = k % 8 * 2 + 1 by omega, List.getElem?_set_self (by simp; omega)]
      · have e3 : ¬ 8 * (k / 8) + i = k := by omega
        simp only [Go.Proofs.YtafickhhdemjnaaGreatDoor.upd, if_neg e3]
        constructor
        · rw [List.getElem?_set_ne (by omega), List.getElem?_set_ne (by omega)]; exact h1
        · rw [List.getElem?_set_ne (by omega), List.getElem?_set_ne (by omega)]; exact h2
    · rw [List.getElem?_set_ne (fun e' => e e'.symm)] at hj
      obtain ⟨ws, hm, hl, hw⟩ := h.pc j p hj
      refine ⟨ws, hs _ hm, hl, fun i hi => ?_⟩
      have e3 : ¬ 8 * j + i = k := by omega
      simp only [Go.Proofs.YtafickhhdemjnaaGreatDoor.upd, if_neg e3]
      exact hw i hi
  · by_cases e : j = k
    · subst e
      simp only [Go.Proofs.YtafickhhdemjnaaGreatDoor.upd, if_true]
      exact hd
    · simp only [Go.Proofs.YtafickhhdemjnaaGreatDoor.upd, if_neg e]
      exact (h.dat j hj).mono hs

theorem Tr.mono {P Q : Pool} {ps : List Nat} {N : Nodes} (h : Tr P ps N) (hs : ∀ x ∈ P, x ∈ Q) : Tr Q ps N :=
  ⟨h.len, fun j p hj => by obtain ⟨vs, hm, r⟩ := h.pc j p hj; exact ⟨vs, hs _ hm, r⟩, fun k hk => (h.dat k hk).mono hs⟩

/-- write, in parts. -/
theorem write_all {w : World} {g k lv : Nat} {pre : List Value} {ps : List Nat} {N : Nodes} {P : Pool} {t : TypeId} {cs : List Comp} {a : Nat} {v : Value} {l : List UInt8} (hA : All (poolC P :: blkC g (treeL pre lv ps) t :: cs) w) (hT : Tr P ps N) (hk : k < 128) (hd : DatP P v l) :
    Calls Tryz.prog 195 #[.pointer (some ⟨g, pre.length, none⟩), .int .i64 (k : Int), .agg #[.int .i64 (a : Int), v]] w fun e w' => (∃ v, e = .returned v) ∧ ∃ Q qs, All (poolC Q :: blkC g (treeL pre lv qs) t :: cs) w' ∧ Tr Q qs (upd N k (a, v, l)) ∧ ∀ x ∈ P, x ∈ Q := by
  obtain ⟨p, vs, e1, e2, hsh, e3, e4, hv⟩ := hT.get hk
  have hg : w.heap[g]? = some (.cells (treeL pre lv ps).toArray t (0, 0)) := hA.blk (by simp)
  obtain ⟨ao, n, c, rfl⟩ := hd.form
  refine (write_any (p := p) (vs := vs) hk (Array.getElem?_eq_some_iff.1 hg).1 (by rw [cell_at hg]; simpa using treeL_ptr e1) (free_at hg _) (hA.poolIn e2) hsh).mono ?_
  rintro e w' ⟨hr, rfl⟩
  refine ⟨hr, ?_⟩
  have h1 := (hA.swap.setBlk (pre.length + 1 + k / 8) (.pointer (some ⟨w.heap.size + 1, 0, none⟩)))
  rw [treeL_set] at h1
  have h2 := (h1.alloc (.cells #[.int .i64 (a : Int), .slice ao n c] 186)).addBlk ((vs.set (k % 8 * 2) (.int .i64 (a : Int))).set (k % 8 * 2 + 1) (.slice ao n c)) 222
  have hsz : ((w.setCell ⟨g, pre.length + 1 + k / 8, none⟩ (.pointer (some ⟨w.heap.size + 1, 0, none⟩))).alloc (.cells #[.int .i64 (a : Int), .slice ao n c] 186)).heap.size = w.heap.size + 1 := by simp [World.setCell]
  rw [hsz] at h2
  have h3 := (h2.perm (List.Perm.cons _ (List.Perm.swap _ _ _))).poolTake
  exact ⟨_, _, h3, hT.upd hk (fun x hx => by simp [hx]) hsh.1 hv (by simp) (hd.mono (fun x hx => by simp [hx])), fun x hx => by simp [hx]⟩

end Go.Proofs.YtafickhhdemjnaaGreatDoor
