import Derived.Test.YtagdpfghooogfaaXRoll
import Derived.Test.YtagdpfghooogfaaSmall
namespace Go.Proofs.Ytagdpfghooogfaa
open Go.RowKit
set_option linter.unusedVariables false

def Pl.row5 (p : Pl) : List Value := [.int .i64 p.n, .int .i64 p.a, .int .i64 p.c, .int .i64 p.k, p.s]
def rowsX (ps : List Pl) : List Value := ps.flatMap Pl.row5
def hasX (ps : List Pl) : List Value := ps.map fun p => .bool p.on
def flatXP (ps : List Pl) : List Value := rowsX ps ++ hasX ps
theorem rowsX_len (ps : List Pl) : (rowsX ps).length = 5 * ps.length := by
  induction ps with
  | nil => rfl
  | cons p ps ih => simp only [rowsX, List.flatMap_cons, List.length_append, List.length_cons] at ih ⊢; rw [ih]; simp [Pl.row5]; omega
theorem rowsX_at {ps : List Pl} {i : Nat} {p : Pl} (h : ps[i]? = some p) {j : Nat} (hj : j < 5) : (rowsX ps)[i * 5 + j]? = p.row5[j]? := by
  induction ps generalizing i with
  | nil => simp at h
  | cons q ps ih =>
    have hq : q.row5.length = 5 := rfl
    cases i with
    | zero =>
      have : q = p := by simpa using h
      subst this
      simp only [rowsX, List.flatMap_cons, Nat.zero_mul, Nat.zero_add]
      rw [List.getElem?_append_left (by omega)]
    | succ i =>
      have := ih (i := i) (by simpa using h)
      simp only [rowsX, List.flatMap_cons]
      rw [List.getElem?_append_right (by omega), ← this, rowsX]
      congr 1
      omega
theorem rowsX_set {ps : List Pl} {i : Nat} {p q : Pl} (h : ps[i]? = some p) : (((((rowsX ps).set (i * 5) (.int .i64 q.n)).set (i * 5 + 1) (.int .i64 q.a)).set (i * 5 + 2) (.int .i64 q.c)).set (i * 5 + 3) (.int .i64 q.k)).set (i * 5 + 4) q.s = rowsX (ps.set i q) := by
  induction ps generalizing i with
  | nil => simp at h
  | cons r ps ih =>
    cases i with
    | zero => simp [rowsX, Pl.row5]
    | succ i =>
      have := ih (i := i) (by simpa using h)
      have e : ∀ (m : Nat) (u : Value) (L : List Value), (r.row5 ++ L).set (5 + m) u = r.row5 ++ L.set m u := fun m u L => by
        rw [List.set_append_right _ _ (by simp [Pl.row5])]; simp [Pl.row5]
      have e0 : (i + 1) * 5 = 5 + i * 5 := by omega
      simp only [rowsX, List.flatMap_cons, List.set_cons_succ] at this ⊢
      rw [e0]
      simp only [Nat.add_assoc, e]
      rw [this]

theorem flatXP_at {ps : List Pl} (h8 : ps.length = 8) {i : Nat} {p : Pl} (h : ps[i]? = some p) {j : Nat} (hj : j < 5) : (flatXP ps)[i * 5 + j]? = p.row5[j]? := by
  have hi : i < ps.length := (List.getElem?_eq_some_iff.1 h).1
  rw [flatXP, List.getElem?_append_left (by rw [rowsX_len]; omega)]
  exact rowsX_at h hj
theorem flatXP_has {ps : List Pl} (h8 : ps.length = 8) {i : Nat} {p : Pl} (h : ps[i]? = some p) : (flatXP ps)[40 + i]? = some (.bool p.on) := by
  rw [flatXP, List.getElem?_append_right (by rw [rowsX_len]; omega), rowsX_len, h8, show 40 + i - 5 * 8 = i by omega, hasX, List.getElem?_map, h]
  rfl
theorem flatXP_set {ps : List Pl} (h8 : ps.length = 8) {i : Nat} {p q : Pl} (h : ps[i]? = some p) (ho : q.on = true) : ((((((flatXP ps).set (i * 5) (.int .i64 q.n)).set (i * 5 + 1) (.int .i64 q.a)).set (i * 5 + 2) (.int .i64 q.c)).set (i * 5 + 3) (.int .i64 q.k)).set (i * 5 + 4) q.s).set (40 + i) (.bool true) = flatXP (ps.set i q) := by
  have hi : i < ps.length := (List.getElem?_eq_some_iff.1 h).1
  have hl := rowsX_len ps
  unfold flatXP
  rw [List.set_append_left _ _ (by omega), List.set_append_left _ _ (by simp; omega), List.set_append_left _ _ (by simp; omega), List.set_append_left _ _ (by simp; omega), List.set_append_left _ _ (by simp; omega), rowsX_set h,
    List.set_append_right _ _ (by rw [rowsX_len]; simp; omega), rowsX_len]
  simp only [List.length_set, h8]
  rw [show 40 + i - 5 * 8 = i by omega]
  congr 1
  unfold hasX
  rw [← ho, List.map_set]

/-- The document's roll, as parts. -/
def xrollL (g : Nat) (ps : List Pl) : List Comp := blkC g (flatXP ps) 73 :: ps.map Pl.part

theorem All.xplace {g i : Nat} {ps : List Pl} {p : Pl} {cs : List Comp} {w : World} (h : All (xrollL g ps ++ cs) w) (hp : ps[i]? = some p) : w.heap[g]? = some (.cells (flatXP ps).toArray 73 (0, 0)) ∧ Txts w p.s p.l := by
  refine ⟨h.blk (by simp [xrollL]), ?_⟩
  have hm : p.part ∈ xrollL g ps ++ cs := List.mem_append_left _ (List.mem_cons_of_mem _ (List.mem_map_of_mem (List.mem_of_getElem? hp)))
  have := (h.mem hm).2.1
  exact Txts.of_owns (by have h2 : w.ownsRow 0 9 1 p.s (cellsT p.l).length (cellsT p.l) := this; rw [cellsT_length] at h2; exact h2)

theorem xcells {g i : Nat} {ps : List Pl} {p : Pl} {w : World} (h8 : ps.length = 8) (h : w.heap[g]? = some (.cells (flatXP ps).toArray 73 (0, 0))) (hp : ps[i]? = some p) :
    w.cell? ⟨g, 40 + i, none⟩ = some (.bool p.on) ∧ w.cell? ⟨g, i * 5, none⟩ = some (.int .i64 p.n) ∧ w.cell? ⟨g, i * 5 + 1, none⟩ = some (.int .i64 p.a) ∧ w.cell? ⟨g, i * 5 + 2, none⟩ = some (.int .i64 p.c) ∧ w.cell? ⟨g, i * 5 + 3, none⟩ = some (.int .i64 p.k) ∧ w.cell? ⟨g, i * 5 + 4, none⟩ = some p.s := by
  refine ⟨?_, ?_, ?_, ?_, ?_, ?_⟩
  · rw [cell_at h]; exact (List.getElem?_toArray ..).trans (flatXP_has h8 hp)
  · rw [cell_at h]; exact (List.getElem?_toArray ..).trans (flatXP_at h8 hp (j := 0) (by omega))
  · rw [cell_at h]; exact (List.getElem?_toArray ..).trans (flatXP_at h8 hp (j := 1) (by omega))
  · rw [cell_at h]; exact (List.getElem?_toArray ..).trans (flatXP_at h8 hp (j := 2) (by omega))
  · rw [cell_at h]; exact (List.getElem?_toArray ..).trans (flatXP_at h8 hp (j := 3) (by omega))
  · rw [cell_at h]; exact (List.getElem?_toArray ..).trans (flatXP_at h8 hp (j := 4) (by omega))

/-- A place is set. -/
theorem All.xputPlace {g i : Nat} {ps : List Pl} {p : Pl} {cs : List Comp} {w : World} {n a c k : Int} {s : Value} {l : List ByteArray} (h8 : ps.length = 8) (h : All (ownC 9 s (cellsT l) :: (xrollL g ps ++ cs)) w) (hp : ps[i]? = some p) :
    All (xrollL g (ps.set i ⟨true, n, a, c, k, s, l⟩) ++ cs) ((((((w.setCell ⟨g, i * 5, none⟩ (.int .i64 n)).setCell ⟨g, i * 5 + 1, none⟩ (.int .i64 a)).setCell ⟨g, i * 5 + 2, none⟩ (.int .i64 c)).setCell ⟨g, i * 5 + 3, none⟩ (.int .i64 k)).setCell ⟨g, i * 5 + 4, none⟩ s).setCell ⟨g, 40 + i, none⟩ (.bool true)).drew := by
  have A6 : All (blkC g (flatXP ps) 73 :: (ownC 9 s (cellsT l) :: (ps.map Pl.part ++ cs))) w := by
    refine All.perm ?_ h
    simp only [xrollL, List.cons_append]
    exact List.Perm.swap _ _ _
  have A7 := (((((A6.setBlk (i * 5) (.int .i64 n)).setBlk (i * 5 + 1) (.int .i64 a)).setBlk (i * 5 + 2) (.int .i64 c)).setBlk (i * 5 + 3) (.int .i64 k)).setBlk (i * 5 + 4) s).setBlk (40 + i) (.bool true)
  have eq := flatXP_set (q := ⟨true, n, a, c, k, s, l⟩) h8 hp rfl
  simp only at eq
  rw [eq] at A7
  have A7 := A7.drew
  have A8 := All.setPart (i := i) (L := ps.map Pl.part) (cs := cs) (by simp; exact (List.getElem?_eq_some_iff.1 hp).1) A7.tail
  have h9 : All (blkC g (flatXP (ps.set i ⟨true, n, a, c, k, s, l⟩)) 73 :: ((ps.map Pl.part).set i (ownC 9 s (cellsT l)) ++ cs)) _ := ⟨A7.1, fun d hd => A7.2.1 d (by
    rcases List.mem_append.1 hd with hd | hd
    · rcases List.mem_or_eq_of_mem_set hd with hd | rfl
      · exact List.mem_cons_of_mem _ (List.mem_append_left _ hd)
      · exact List.mem_cons_self
    · exact List.mem_cons_of_mem _ (List.mem_append_right _ hd)), A8⟩
  simp only [xrollL, List.cons_append, List.map_set]
  exact h9

theorem xroll_new {cs : List Comp} {w : World} (h : All cs w) : Calls Try.prog 9 #[] w fun e w' => ∃ g, e = .returned (.pointer (some ⟨g, 0, none⟩)) ∧ All (xrollL g (List.replicate 8 .zero) ++ cs) w' := by
  have HA := hid h
  clear h
  go_enter Try.func9, Try.ntmps9
  go_wp2
  go_ret
  refine ⟨_, rfl, ?_⟩
  have A0 : All ((List.replicate 8 Pl.zero).map Pl.part ++ cs) w := (((((((HA.out.addNil (e := 9)).addNil (e := 9)).addNil (e := 9)).addNil (e := 9)).addNil (e := 9)).addNil (e := 9)).addNil (e := 9)).addNil (e := 9)
  exact A0.addBlk (flatXP (List.replicate 8 .zero)) 73

theorem ReadsW.form {w : World} {s : Value} {l : List UInt8} (h : ReadsW w s l) : ∃ ao c, s = .slice ao l.length c := by
  rcases h with h | ⟨rfl, a, c, rfl⟩
  · exact h.form
  · exact ⟨_, _, rfl⟩
theorem ReadsW.of_ne {w : World} {s : Value} {l : List UInt8} (h : ReadsW w s l) (hl : l ≠ []) : Reads w s l := h.resolve_right (fun h => hl h.1)
/-- Lists that came in: an empty one may have any address. -/
def ListsW (w : World) (s : Value) (ls : List (List UInt8)) : Prop :=
  ∃ ao c, s = .slice ao ls.length c ∧ ∀ j (h : j < ls.length), ∃ g o v, ao = some ⟨g, o, none⟩ ∧ g < w.heap.size ∧ w.cell? ⟨g, o + j, none⟩ = some v ∧ ReadsW w v ls[j]
theorem ListsW.form {w : World} {s : Value} {ls : List (List UInt8)} (h : ListsW w s ls) : ∃ ao c, s = .slice ao ls.length c := by obtain ⟨ao, c, e, _⟩ := h; exact ⟨ao, c, e⟩
theorem ListsW.at {w : World} {ao : Option Addr} {n c : Nat} {ls : List (List UInt8)} (h : ListsW w (.slice ao n c) ls) {j : Nat} (hj : j < ls.length) : ∃ g o v, ao = some ⟨g, o, none⟩ ∧ g < w.heap.size ∧ w.cell? ⟨g, o + j, none⟩ = some v ∧ ReadsW w v ls[j] := by
  obtain ⟨ao', c', e, hx⟩ := h
  simp only [Value.slice.injEq] at e
  obtain ⟨rfl, _, _⟩ := e
  exact hx j hj

set_option maxHeartbeats 1600000 in
set_option maxRecDepth 1000000 in
theorem xload_any {s : Value} {ls : List (List UInt8)} {cs : List Comp} {w : World} (h : All cs w) (hT : ∀ w', All cs w' → ListsW w' s ls) (hlens : ∀ l ∈ ls, l.length ≤ 140737488355328) :
    Calls Try.prog 36 #[s] w fun e w' => (¬ loadOk ls ∧ e = .returned (.tuple #[.pointer none, .int .i64 72]) ∧ All cs w') ∨
      (loadOk ls ∧ ∃ g ps, e = .returned (.tuple #[.pointer (some ⟨g, 0, none⟩), .int .i64 0]) ∧ Upto ls 8 ps ∧ All (xrollL g ps ++ cs) w') := by
  obtain ⟨ao, cp, rfl⟩ := (hT w h).form
  have HA := hid h
  have HT := hid hT
  have HL := hid hlens
  clear h hT hlens
  by_cases h8 : ls.length = 8
  case neg =>
    have e8 : ((ls.length : Int) != 8) = true := by simp; omega
    have F : Hid (¬ loadOk ls) := hid (fun hh => h8 hh.1)
    go_enter Try.func36, Try.ntmps36
    go_wp2
    go_ret2
    exact .inl ⟨F.out, rfl, HA.out⟩
  have H8 := hid h8
  rw [h8]
  clear h8
  go_enter Try.func36, Try.ntmps36
  go_wp2_with fail
  refine (xroll_new HA.out).mono ?_
  rintro e w1 ⟨g, rfl, A1⟩
  have A1 := hid A1
  clear HA
  go_wp2
  go_loopw [5] (fun iv wr => ∃ (k : Nat) (ps : List Pl), iv = .int .i64 (k : Int) ∧ k ≤ 8 ∧ Hid (Upto ls k ps ∧ (∀ i l, i < k → ls[i]? = some l → l = [] ∨ rowOk l = true) ∧ All (xrollL g ps ++ cs) wr)) (fun iv _ => 8 - (intOf iv).toNat)
  case atStart => exact ⟨0, _, rfl, by omega, hid ⟨⟨rfl, fun i p hp => ⟨fun _ => (List.eq_of_mem_replicate (List.mem_of_getElem? hp)), fun h => by omega⟩⟩, fun i l h => by omega, A1.out⟩⟩
  case round =>
    obtain ⟨k, ps, rfl, hk, HI⟩ := hrel
    clear A1
    by_cases hlt : k < 8
    case neg =>
      obtain rfl : k = 8 := by omega
      go_wp2
      go_ret2
      refine .inr ⟨⟨H8.out, fun l hl => ?_⟩, g, ps, rfl, HI.out.1, HI.out.2.2⟩
      obtain ⟨i, hi, rfl⟩ := List.getElem_of_mem hl
      exact HI.out.2.1 i _ (by rw [← H8.out]; exact hi) (List.getElem?_eq_getElem hi)
    have el : decide ((k : Int) < 8) = true := by simp; omega
    have hkl : k < ls.length := by rw [H8.out]; exact hlt
    obtain ⟨l, hl⟩ : ∃ l, Hid (l = ls[k]) := ⟨_, hid rfl⟩
    have HLk : Hid (ls[k]? = some l) := hid (by rw [List.getElem?_eq_getElem hkl, hl.out])
    have HLl : Hid (l.length ≤ 140737488355328) := hid (HL.out l (List.mem_of_getElem? HLk.out))
    have hAcs := HI.out.2.2.sublist (List.sublist_append_right _ _)
    obtain ⟨gl, ol, vl, ea, hgl, hcell, hrd⟩ := (HT.out wr hAcs).at hkl
    rw [← hl.out] at hrd
    obtain ⟨al, cl, rfl⟩ := hrd.form
    subst ea
    have HR := hid hrd
    clear hAcs hrd hl hkl
    by_cases hz : l = []
    · subst hz
      simp only [List.length_nil] at hcell HR
      go_wp2
      go_roundw
      case rel => exact ⟨k + 1, ps, by go_num, by omega, hid ⟨HI.out.1.skip HLk.out, fun i l' hi hl' => by
        rcases Nat.lt_or_ge i k with h1 | h1
        · exact HI.out.2.1 i l' h1 hl'
        · obtain rfl : i = k := by omega
          rw [HLk.out] at hl'
          cases hl'
          exact .inl rfl, HI.out.2.2⟩⟩
      case measure => simp [intOf]; omega
    have HZ := hid hz
    obtain ⟨ll, hll⟩ : ∃ ll, Hid (ll = l.length) := ⟨_, hid rfl⟩
    rw [← hll.out] at hcell HR
    have e0 : ((ll : Int) == 0) = false := by
      have : l.length ≠ 0 := fun h => hz (List.eq_nil_of_length_eq_zero h)
      rw [beq_eq_false_iff_ne, hll.out]; omega
    clear hz
    go_wp2_with fail
    refine (xread_any HI.out.2.2 (HR.out.of_ne HZ.out) HLl.out).mono ?_
    rintro e w2 ⟨so, sc, rfl, A2⟩
    obtain ⟨X, hX⟩ : ∃ X, Hid (X = rowR l) := ⟨_, hid rfl⟩
    rw [← hX.out] at A2 ⊢
    obtain ⟨nl, hnl⟩ : ∃ nl, Hid (nl = X.l.length) := ⟨_, hid rfl⟩
    rw [← hnl.out] at A2 ⊢
    have A3 := hid (A2.addBlk [.int .i64 X.n, .int .i64 X.a, .int .i64 X.c, .int .i64 X.k, .slice so nl sc] 39)
    clear A2
    cases hok : rowOk l with
    | false =>
      have F : Hid (¬ loadOk ls) := hid (fun hh => by
        rcases hh.2 l (List.mem_of_getElem? HLk.out) with h | h
        · exact HZ.out h
        · rw [hok] at h; cases h)
      clear HI HR hok
      go_wp2
      go_ret2
      exact .inl ⟨F.out, rfl, A3.out.sublist (.cons _ (.cons _ (List.sublist_append_right _ _)))⟩
    | true =>
      have HG := hid hok
      clear HR hok
      go_wp2_with fail
      generalize hw3 : w2.alloc (.cells #[.int .i64 X.n, .int .i64 X.a, .int .i64 X.c, .int .i64 X.k, .slice so nl sc] 39) = w3
      rw [show w2.alloc (.cells [.int .i64 X.n, .int .i64 X.a, .int .i64 X.c, .int .i64 X.k, .slice so nl sc].toArray 39) = w3 from hw3] at A3
      clear hw3
      have hk8 : k < ps.length := by rw [HI.out.1.1]; exact hlt
      obtain ⟨p, hp⟩ : ∃ p, ps[k]? = some p := ⟨_, List.getElem?_eq_getElem hk8⟩
      obtain ⟨hg2, hTp⟩ := A3.out.tail.tail.xplace hp
      obtain ⟨c0, c1, c2, c3, c4, c5⟩ := xcells HI.out.1.1 hg2 hp
      obtain ⟨aop, cpp, e5⟩ := hTp.form
      rw [e5] at c5
      have hgl2 : g < w3.heap.size := (Array.getElem?_eq_some_iff.1 hg2).1
      have fz : ∀ j, w3.frozen? ⟨g, j, none⟩ = false := fun j => free_at hg2 j
      have erx : w3.heap[w2.heap.size]? = some (.cells #[.int .i64 X.n, .int .i64 X.a, .int .i64 X.c, .int .i64 X.k, .slice so nl sc] 39 (0, 0)) := A3.out.1.2.1
      have x0 : w3.cell? ⟨w2.heap.size, 0, none⟩ = some (.int .i64 X.n) := by rw [cell_at erx]; rfl
      have x1 : w3.cell? ⟨w2.heap.size, 1, none⟩ = some (.int .i64 X.a) := by rw [cell_at erx]; rfl
      have x2 : w3.cell? ⟨w2.heap.size, 2, none⟩ = some (.int .i64 X.c) := by rw [cell_at erx]; rfl
      have x3 : w3.cell? ⟨w2.heap.size, 3, none⟩ = some (.int .i64 X.k) := by rw [cell_at erx]; rfl
      have x4 : w3.cell? ⟨w2.heap.size, 4, none⟩ = some (.slice so nl sc) := by rw [cell_at erx]; rfl
      have HP := hid hp
      have hkI : (k : Int) < 8 := by omega
      have h40 : ¬ k * 5 = 40 + k := by omega
      have h41 : ¬ k * 5 + 1 = 40 + k := by omega
      have h42 : ¬ k * 5 + 2 = 40 + k := by omega
      have h43 : ¬ k * 5 + 3 = 40 + k := by omega
      have h44 : ¬ k * 5 + 4 = 40 + k := by omega
      have g40 : ¬ 40 + k = k * 5 := by omega
      have g41 : ¬ 40 + k = k * 5 + 1 := by omega
      have g42 : ¬ 40 + k = k * 5 + 2 := by omega
      have g43 : ¬ 40 + k = k * 5 + 3 := by omega
      have g44 : ¬ 40 + k = k * 5 + 4 := by omega
      have PUT := hid (All.xputPlace (n := X.n) (a := X.a) (c := X.c) (k := X.k) (l := X.l) HI.out.1.1 (A3.out.sublist (.cons _ (.refl _))) HP.out)
      clear hp hg2 hTp hk8 erx
      go_region
      clear A3
      go_wp2
      go_roundw
      case rel =>
        refine ⟨k + 1, _, by go_num, by omega, hid ⟨?_, fun i l' hi hl' => ?_, PUT.out⟩⟩
        · rw [hX.out]
          exact HI.out.1.put HLk.out HZ.out HG.out _
        · rcases Nat.lt_or_ge i k with h1 | h1
          · exact HI.out.2.1 i l' h1 hl'
          · obtain rfl : i = k := by omega
            rw [HLk.out] at hl'
            cases hl'
            exact .inr HG.out
      case measure => simp [intOf]; omega

end Go.Proofs.Ytagdpfghooogfaa
