import Derived.Test.YtagdpfghooogfaaRead
namespace Go.Proofs.Ytagdpfghooogfaa
open Go.RowKit
set_option linter.unusedVariables false

/-- Lists of bytes that are read. -/
def Lists (w : World) (s : Value) (ls : List (List UInt8)) : Prop :=
  ∃ ao c, s = .slice ao ls.length c ∧ ∀ j (h : j < ls.length), ∃ g o v, ao = some ⟨g, o, none⟩ ∧ g < w.heap.size ∧ w.cell? ⟨g, o + j, none⟩ = some v ∧ Reads w v ls[j]
theorem Lists.form {w : World} {s : Value} {ls : List (List UInt8)} (h : Lists w s ls) : ∃ ao c, s = .slice ao ls.length c := by obtain ⟨ao, c, e, _⟩ := h; exact ⟨ao, c, e⟩
theorem Lists.at {w : World} {ao : Option Addr} {n c : Nat} {ls : List (List UInt8)} (h : Lists w (.slice ao n c) ls) {j : Nat} (hj : j < ls.length) : ∃ g o v, ao = some ⟨g, o, none⟩ ∧ g < w.heap.size ∧ w.cell? ⟨g, o + j, none⟩ = some v ∧ Reads w v ls[j] := by
  obtain ⟨ao', c', e, hx⟩ := h
  simp only [Value.slice.injEq] at e
  obtain ⟨rfl, _, _⟩ := e
  exact hx j hj

/-- The place that bytes make. -/
def PlOf (l : List UInt8) (p : Pl) : Prop := (l = [] ∧ p = .zero) ∨ (l ≠ [] ∧ rowOk l = true ∧ p.on = true ∧ p.n = (rowR l).n ∧ p.a = (rowR l).a ∧ p.c = (rowR l).c ∧ p.k = (rowR l).k ∧ p.l = (rowR l).l)
/-- Places, up to k made of lists. -/
def Upto (ls : List (List UInt8)) (k : Nat) (ps : List Pl) : Prop := ps.length = 8 ∧ (∀ i p, ps[i]? = some p → (k ≤ i → p = .zero) ∧ (i < k → ∀ l, ls[i]? = some l → PlOf l p))

theorem Upto.skip {ls : List (List UInt8)} {k : Nat} {ps : List Pl} (h : Upto ls k ps) (hk : ls[k]? = some []) : Upto ls (k + 1) ps := by
  refine ⟨h.1, fun i p hp => ⟨fun hi => (h.2 i p hp).1 (by omega), fun hi l hl => ?_⟩⟩
  rcases Nat.lt_or_ge i k with h1 | h1
  · exact (h.2 i p hp).2 h1 l hl
  · obtain rfl : i = k := by omega
    rw [hk] at hl
    cases hl
    exact .inl ⟨rfl, (h.2 i p hp).1 (Nat.le_refl _)⟩
theorem Upto.put {ls : List (List UInt8)} {k : Nat} {ps : List Pl} (h : Upto ls k ps) {l : List UInt8} (hk : ls[k]? = some l) (hne : l ≠ []) (hok : rowOk l = true) (s : Value) : Upto ls (k + 1) (ps.set k ⟨true, (rowR l).n, (rowR l).a, (rowR l).c, (rowR l).k, s, (rowR l).l⟩) := by
  refine ⟨by simpa using h.1, fun i p hp => ?_⟩
  by_cases e : i = k
  · subst e
    refine ⟨fun hi => by omega, fun _ l' hl => ?_⟩
    rw [hk] at hl
    cases hl
    have hlt : i < ps.length := by
      have := (List.getElem?_eq_some_iff.1 hp).1
      simpa using this
    rw [List.getElem?_set_self hlt] at hp
    cases hp
    exact .inr ⟨hne, hok, rfl, rfl, rfl, rfl, rfl, rfl⟩
  · rw [List.getElem?_set_ne (Ne.symm e)] at hp
    exact ⟨fun hi => (h.2 i p hp).1 (by omega), fun hi => (h.2 i p hp).2 (by omega)⟩

def loadOk (ls : List (List UInt8)) : Prop := ls.length = 8 ∧ ∀ l ∈ ls, l = [] ∨ rowOk l = true

/-- A place is set. -/
theorem All.putPlace {g i : Nat} {ps : List Pl} {p : Pl} {cs : List Comp} {w : World} {n a c k : Int} {s : Value} {l : List ByteArray} (h : All (ownC 9 s (cellsT l) :: (rollL g ps ++ cs)) w) (hp : ps[i]? = some p) :
    All (rollL g (ps.set i ⟨true, n, a, c, k, s, l⟩) ++ cs) ((((((w.setCell ⟨g, i * 6, none⟩ (.bool true)).setCell ⟨g, i * 6 + 1, none⟩ (.int .i64 n)).setCell ⟨g, i * 6 + 2, none⟩ (.int .i64 a)).setCell ⟨g, i * 6 + 3, none⟩ (.int .i64 c)).setCell ⟨g, i * 6 + 4, none⟩ (.int .i64 k)).setCell ⟨g, i * 6 + 5, none⟩ s) := by
  have A6 : All (blkC g (flatP ps) 69 :: (ownC 9 s (cellsT l) :: (ps.map Pl.part ++ cs))) w := by
    refine All.perm ?_ h
    simp only [rollL, List.cons_append]
    exact List.Perm.swap _ _ _
  have A7 := (((((A6.setBlk (i * 6) (.bool true)).setBlk (i * 6 + 1) (.int .i64 n)).setBlk (i * 6 + 2) (.int .i64 a)).setBlk (i * 6 + 3) (.int .i64 c)).setBlk (i * 6 + 4) (.int .i64 k)).setBlk (i * 6 + 5) s
  have eq := flatP_set (q := ⟨true, n, a, c, k, s, l⟩) hp
  simp only at eq
  rw [eq] at A7
  have A8 := All.setPart (i := i) (L := ps.map Pl.part) (cs := cs) (by simp; exact (List.getElem?_eq_some_iff.1 hp).1) A7.tail
  have h9 : All (blkC g (flatP (ps.set i ⟨true, n, a, c, k, s, l⟩)) 69 :: ((ps.map Pl.part).set i (ownC 9 s (cellsT l)) ++ cs)) _ := ⟨A7.1, fun d hd => A7.2.1 d (by
    rcases List.mem_append.1 hd with hd | hd
    · rcases List.mem_or_eq_of_mem_set hd with hd | rfl
      · exact List.mem_cons_of_mem _ (List.mem_append_left _ hd)
      · exact List.mem_cons_self
    · exact List.mem_cons_of_mem _ (List.mem_append_right _ hd)), A8⟩
  simp only [rollL, List.cons_append, List.map_set]
  exact h9

set_option maxHeartbeats 1600000 in
set_option maxRecDepth 1000000 in
theorem load_any {s : Value} {ls : List (List UInt8)} {cs : List Comp} {w : World} (h : All cs w) (hT : ∀ w', All cs w' → Lists w' s ls) (hlen : ls.length ≤ 140737488355328) (hlens : ∀ l ∈ ls, l.length ≤ 140737488355328) :
    Calls Try.prog 25 #[s] w fun e w' => (¬ loadOk ls ∧ e = .returned (.tuple #[.pointer none, .int .i64 72]) ∧ All cs w') ∨
      (loadOk ls ∧ ∃ g ps, e = .returned (.tuple #[.pointer (some ⟨g, 0, none⟩), .int .i64 0]) ∧ Upto ls 8 ps ∧ All (rollL g ps ++ cs) w') := by
  obtain ⟨ao, cp, rfl⟩ := (hT w h).form
  have HA := hid h
  have HT := hid hT
  have HL := hid hlens
  clear h hT hlens
  by_cases h8 : ls.length = 8
  case neg =>
    have e8 : ((ls.length : Int) != 8) = true := by simp; omega
    have F : Hid (¬ loadOk ls) := hid (fun hh => h8 hh.1)
    go_enter Try.func25, Try.ntmps25
    go_wp2_with fail
    refine (new_any HA.out).mono ?_
    rintro e w1 ⟨g, rfl, A1⟩
    have A1 := hid A1
    clear HA
    go_wp2
    go_ret2
    exact .inl ⟨F.out, rfl, A1.out.sublist (List.sublist_append_right _ _)⟩
  have H8 := hid h8
  rw [h8]
  clear h8 hlen
  go_enter Try.func25, Try.ntmps25
  go_wp2_with fail
  refine (new_any HA.out).mono ?_
  rintro e w1 ⟨g, rfl, A1⟩
  have A1 := hid A1
  clear HA
  go_wp2
  go_loopw [15] (fun iv wr => ∃ (k : Nat) (ps : List Pl), iv = .int .i64 (k : Int) ∧ k ≤ 8 ∧ Hid (Upto ls k ps ∧ (∀ i l, i < k → ls[i]? = some l → l = [] ∨ rowOk l = true) ∧ All (rollL g ps ++ cs) wr)) (fun iv _ => 8 - (intOf iv).toNat)
  case atStart => exact ⟨0, _, rfl, by omega, hid ⟨⟨rfl, fun i p hp => ⟨fun _ => (List.eq_of_mem_replicate (List.mem_of_getElem? hp)), fun h => by omega⟩⟩, fun i l h => by omega, A1.out⟩⟩
  case round =>
    obtain ⟨k, ps, rfl, hk, HI⟩ := hrel
    clear A1
    by_cases hlt : k < 8
    case neg =>
      obtain rfl : k = 8 := by omega
      go_wp2
      go_ret2
      refine .inr ⟨⟨H8.out, fun l hl => ?_⟩, g, ps, rfl, HI.out.1, HI.out.2.2⟩
      obtain ⟨i, hi, rfl⟩ := List.getElem_of_mem hl
      exact HI.out.2.1 i _ (by rw [← H8.out]; exact hi) (List.getElem?_eq_getElem hi)
    have el : decide ((k : Int) < 8) = true := by simp; omega
    have hkl : k < ls.length := by rw [H8.out]; exact hlt
    obtain ⟨l, hl⟩ : ∃ l, Hid (l = ls[k]) := ⟨_, hid rfl⟩
    have HLk : Hid (ls[k]? = some l) := hid (by rw [List.getElem?_eq_getElem hkl, hl.out])
    have HLl : Hid (l.length ≤ 140737488355328) := hid (HL.out l (List.mem_of_getElem? HLk.out))
    have hAcs := HI.out.2.2.sublist (List.sublist_append_right _ _)
    obtain ⟨gl, ol, vl, ea, hgl, hcell, hrd⟩ := (HT.out wr hAcs).at hkl
    rw [← hl.out] at hrd
    obtain ⟨al, cl, rfl⟩ := hrd.form
    subst ea
    have HR := hid hrd
    clear hAcs hrd hl hkl
    by_cases hz : l = []
    · subst hz
      simp only [List.length_nil] at hcell HR
      go_wp2
      go_roundw
      case rel => exact ⟨k + 1, ps, by go_num, by omega, hid ⟨HI.out.1.skip HLk.out, fun i l' hi hl' => by
        rcases Nat.lt_or_ge i k with h1 | h1
        · exact HI.out.2.1 i l' h1 hl'
        · obtain rfl : i = k := by omega
          rw [HLk.out] at hl'
          cases hl'
          exact .inl rfl, HI.out.2.2⟩⟩
      case measure => simp [intOf]; omega
    have HZ := hid hz
    obtain ⟨ll, hll⟩ : ∃ ll, Hid (ll = l.length) := ⟨_, hid rfl⟩
    rw [← hll.out] at hcell HR
    have e0 : ((ll : Int) == 0) = false := by
      have : l.length ≠ 0 := fun h => hz (List.eq_nil_of_length_eq_zero h)
      rw [beq_eq_false_iff_ne, hll.out]; omega
    clear hz
    go_wp2_with fail
    refine (readRow_any HI.out.2.2 HR.out HLl.out).mono ?_
    rintro e w2 (⟨hbad, rfl, A2⟩ | ⟨hgood, so, sc, rfl, A2⟩)
    · have F : Hid (¬ loadOk ls) := hid (fun hh => by
        rcases hh.2 l (List.mem_of_getElem? HLk.out) with h | h
        · exact HZ.out h
        · rw [hbad] at h; cases h)
      have A2 := hid A2
      have A2' := hid (A2.out.alloc (.cells #[.int .i64 0, .int .i64 0, .int .i64 0, .int .i64 0, .slice none 0 0] 39))
      clear HI hbad HR A2
      go_wp2
      go_ret2
      exact .inl ⟨F.out, rfl, A2'.out.sublist (List.sublist_append_right _ _)⟩
    · have A2 := hid A2
      have HG := hid hgood
      clear HR hgood
      obtain ⟨X, hX⟩ : ∃ X, Hid (X = rowR l) := ⟨_, hid rfl⟩
      rw [← hX.out] at A2 ⊢
      obtain ⟨nl, hnl⟩ : ∃ nl, Hid (nl = X.l.length) := ⟨_, hid rfl⟩
      rw [← hnl.out] at A2 ⊢
      have A3 := hid (A2.out.addBlk [.int .i64 X.n, .int .i64 X.a, .int .i64 X.c, .int .i64 X.k, .slice so nl sc] 39)
      clear A2
      go_wp2_with fail
      generalize hw3 : w2.alloc (.cells #[.int .i64 X.n, .int .i64 X.a, .int .i64 X.c, .int .i64 X.k, .slice so nl sc] 39) = w3
      rw [show w2.alloc (.cells [.int .i64 X.n, .int .i64 X.a, .int .i64 X.c, .int .i64 X.k, .slice so nl sc].toArray 39) = w3 from hw3] at A3
      clear hw3
      have hk8 : k < ps.length := by rw [HI.out.1.1]; exact hlt
      obtain ⟨p, hp⟩ : ∃ p, ps[k]? = some p := ⟨_, List.getElem?_eq_getElem hk8⟩
      obtain ⟨hg2, hTp⟩ := A3.out.tail.tail.place hp
      obtain ⟨c0, c1, c2, c3, c4, c5⟩ := cells5 hg2 hp
      obtain ⟨aop, cpp, e5⟩ := hTp.form
      rw [e5] at c5
      have hgl2 : g < w3.heap.size := (Array.getElem?_eq_some_iff.1 hg2).1
      have fz : ∀ j, w3.frozen? ⟨g, j, none⟩ = false := fun j => free_at hg2 j
      have erx : w3.heap[w2.heap.size]? = some (.cells #[.int .i64 X.n, .int .i64 X.a, .int .i64 X.c, .int .i64 X.k, .slice so nl sc] 39 (0, 0)) := A3.out.1.2.1
      have x0 : w3.cell? ⟨w2.heap.size, 0, none⟩ = some (.int .i64 X.n) := by rw [cell_at erx]; rfl
      have x1 : w3.cell? ⟨w2.heap.size, 1, none⟩ = some (.int .i64 X.a) := by rw [cell_at erx]; rfl
      have x2 : w3.cell? ⟨w2.heap.size, 2, none⟩ = some (.int .i64 X.c) := by rw [cell_at erx]; rfl
      have x3 : w3.cell? ⟨w2.heap.size, 3, none⟩ = some (.int .i64 X.k) := by rw [cell_at erx]; rfl
      have x4 : w3.cell? ⟨w2.heap.size, 4, none⟩ = some (.slice so nl sc) := by rw [cell_at erx]; rfl
      have HP := hid hp
      have hkI : (k : Int) < 8 := by omega
      clear hp hg2 hTp hk8 erx
      go_region
      have A4 := hid (All.putPlace (n := X.n) (a := X.a) (c := X.c) (k := X.k) (l := X.l) (A3.out.sublist (.cons _ (.refl _))) HP.out).drew
      clear A3 c0 c1 c2 c3 c4 c5 fz x0 x1 x2 x3 x4
      go_wp2
      go_roundw
      case rel =>
        refine ⟨k + 1, _, by go_num, by omega, hid ⟨?_, fun i l' hi hl' => ?_, A4.out⟩⟩
        · rw [hX.out]
          exact HI.out.1.put HLk.out HZ.out HG.out _
        · rcases Nat.lt_or_ge i k with h1 | h1
          · exact HI.out.2.1 i l' h1 hl'
          · obtain rfl : i = k := by omega
            rw [HLk.out] at hl'
            cases hl'
            exact .inr HG.out
      case measure => simp [intOf]; omega

end Go.Proofs.Ytagdpfghooogfaa
