import Derived.Test.YtagdpfghooogfaaTri
import Derived.Test.YtagdpfghooogfaaOpenS
import Derived.Test.YtagdpfghooogfaaShown
import Derived.Deep.DeepCutAuto
import Derived.Deep.QuietTactic
import Derived.BigQuiet
import Derived.Deep.CutBlock
import Derived.Deep.RegionHeld3
namespace Go.Proofs.Ytagdpfghooogfaa
open Go.RowKit
set_option linter.unusedVariables false

def nilP : Value := .pointer none

theorem nils_set {L : List Value} {i : Nat} {x : Value} (hl : L.length = i) (hi : i < 3) : (L ++ List.replicate (3 - i) nilP).set i x = (L ++ [x]) ++ List.replicate (3 - (i + 1)) nilP := by
  rw [List.set_append_right _ _ (by omega), hl, Nat.sub_self, show 3 - i = (3 - (i + 1)) + 1 by omega, List.replicate_succ, List.set_cons_zero, List.append_assoc]
  rfl
theorem nils_at {L : List Value} {i : Nat} (hl : L.length = i) (hi : i < 3) : (L ++ List.replicate (3 - i) nilP)[i]? = some nilP := by
  rw [List.getElem?_append_right (by omega), hl, Nat.sub_self, show 3 - i = (3 - (i + 1)) + 1 by omega, List.replicate_succ]
  rfl

theorem blk_at {g : Nat} {vs : List Value} {t : TypeId} {cs : List Comp} {w : World} (h : All cs w) (hm : blkC g vs t ∈ cs) {j : Nat} {u : Value} (hu : vs[j]? = some u) : w.cell? ⟨g, j, none⟩ = some u ∧ w.frozen? ⟨g, j, none⟩ = false := by
  have eb := h.blk hm
  refine ⟨?_, free_at eb j⟩
  rw [cell_at eb]
  exact (List.getElem?_toArray ..).trans hu

theorem mem_A {A B : Nat} {ga hb : List Value} {T : List Rl} {Z : List Comp} (Y : List Comp) : blkC A ga 25 ∈ Y ++ (duoG A B ga hb T ++ Z) := by simp [duoG]
theorem mem_B {A B : Nat} {ga hb : List Value} {T : List Rl} {Z : List Comp} (Y : List Comp) : blkC B hb 27 ∈ Y ++ (duoG A B ga hb T ++ Z) := by simp [duoG]

theorem setA {A B : Nat} {ga hb : List Value} {T : List Rl} {Y Z : List Comp} {w : World} (h : All (Y ++ (duoG A B ga hb T ++ Z)) w) (j : Nat) (u : Value) : All (Y ++ (duoG A B (ga.set j u) hb T ++ Z)) (w.setCell ⟨A, j, none⟩ u) := by
  have p : ∀ ga', (Y ++ (duoG A B ga' hb T ++ Z)).Perm (blkC A ga' 25 :: (Y ++ (blkC B hb 27 :: (T.flatMap Rl.parts ++ Z)))) := fun ga' => List.perm_middle (a := blkC A ga' 25) (l₁ := Y)
  exact ((h.perm (p ga)).setBlk j u).perm (p _).symm
theorem setB {A B : Nat} {ga hb : List Value} {T : List Rl} {Y Z : List Comp} {w : World} (h : All (Y ++ (duoG A B ga hb T ++ Z)) w) (j : Nat) (u : Value) : All (Y ++ (duoG A B ga (hb.set j u) T ++ Z)) (w.setCell ⟨B, j, none⟩ u) := by
  have p : ∀ hb', (Y ++ (duoG A B ga hb' T ++ Z)).Perm (blkC B hb' 27 :: (Y ++ (blkC A ga 25 :: (T.flatMap Rl.parts ++ Z)))) := fun hb' => by
    have := perm_by 4 [Y, [blkC A ga 25], [blkC B hb' 27], T.flatMap Rl.parts ++ Z] [2, 0, 1, 3] rfl (by decide)
    simpa [List.getD, duoG, List.append_assoc] using this
  exact ((h.perm (p hb)).setBlk j u).perm (p _).symm

theorem duo_snoc {A B : Nat} {ga hb : List Value} {T : List Rl} {r : Rl} {Z : List Comp} {w : World} (h : All (xrollL r.h r.qs ++ (rollL r.g r.ps ++ (duoG A B ga hb T ++ Z))) w) : All (duoG A B ga hb (T ++ [r]) ++ Z) w := by
  refine h.perm ?_
  have := perm_by 5 [xrollL r.h r.qs, rollL r.g r.ps, [blkC A ga 25, blkC B hb 27], T.flatMap Rl.parts, Z] [2, 3, 1, 0, 4] rfl (by decide)
  simpa [List.getD, duoG, Rl.parts, List.append_assoc] using this

theorem txts_lent {H : Nat} {l : List ByteArray} {w : World} (h : w.heap[H]? = some (.cells (cellsT l ++ [spS, spS, spS]).toArray 9 (0, 0))) : Txts w (.slice (some ⟨H, 0, none⟩) l.length (l.length + 3)) l := by
  refine ⟨_, _, rfl, by omega, .inr ⟨H, 0, rfl, (Array.getElem?_eq_some_iff.1 h).1, fun j hj => ?_⟩⟩
  rw [Nat.zero_add, cell_at h]
  refine (List.getElem?_toArray ..).trans ?_
  rw [List.getElem?_append_left (by rw [cellsT_length]; exact hj)]
  simp [cellsT, hj]

theorem ptr_set {T : List Rl} {i : Nat} {r : Rl} (h : T[i]? = some r) (y : Rl) (hg : y.g = r.g) (hh : y.h = r.h) : ptrG (T.set i y) = ptrG T ∧ ptrH (T.set i y) = ptrH T := by
  obtain ⟨hl, e⟩ := List.getElem?_eq_some_iff.1 h
  subst e
  constructor
  · refine List.ext_getElem? fun j => ?_
    simp only [ptrG, List.getElem?_map, List.getElem?_set]
    split
    · rename_i hj
      subst hj
      simp [hl, hg]
    · rfl
  · refine List.ext_getElem? fun j => ?_
    simp only [ptrH, List.getElem?_map, List.getElem?_set]
    split
    · rename_i hj
      subst hj
      simp [hl, hh]
    · rfl

theorem lists_own {ro : Option Addr} {rc : Nat} {vs : List Value} {ls : List (List UInt8)} {W : World} {cs : List Comp} (h : All (ownC 40 (.slice ro 8 rc) vs :: cs) W) (hv : vs.length = 8) (hl : ls.length = 8) (hr : ∀ (k : Nat) v l, vs[k]? = some v → ls[k]? = some l → ReadsW W v l) : ListsW W (.slice ro 8 rc) ls := by
  refine ⟨ro, rc, by rw [hl], fun j hj => ?_⟩
  have hjv : j < vs.length := by omega
  have own : W.ownsRow 0 40 1 (.slice ro 8 rc) vs.length vs := h.1.2.1
  obtain ⟨g, rfl, hc, _⟩ := owns_at own (k := j) (u := vs[j]) (List.getElem?_eq_getElem hjv)
  refine ⟨g, 0, vs[j], rfl, h.1.2.2 g (by simp [ownC, Value.ownBlock]), by rw [Nat.zero_add]; exact hc, ?_⟩
  exact hr j _ _ (List.getElem?_eq_getElem hjv) (List.getElem?_eq_getElem hj)

theorem bpart_reads {bl : List (Value × List UInt8)} {c : Comp} {Z : List Comp} {W : World} (h : All (c :: (bl.map bpart ++ Z)) W) {k : Nat} {v : Value} {l : List UInt8} (hv : (bl.map Prod.fst)[k]? = some v) (hl : (bl.map Prod.snd)[k]? = some l) : ReadsW W v l := by
  have hk : k < bl.length := by simpa using (List.getElem?_eq_some_iff.1 hv).1
  have e1 : bl[k].1 = v := by simpa [hk] using hv
  have e2 : bl[k].2 = l := by simpa [hk] using hl
  subst e1 e2
  have ho : W.ownsRow 0 5 1 bl[k].1 (cellsB bl[k].2).length (cellsB bl[k].2) := (h.mem (c := bpart bl[k]) (List.mem_cons_of_mem _ (List.mem_append_left _ (List.mem_map_of_mem (List.getElem_mem hk))))).2.1
  rw [cellsB_length] at ho
  exact .inl (Reads.of_owns ho)

theorem klast4 {A B i b : Nat} {ga hb : List Value} {T : List Rl} {r : Rl} {vi vt : Value} {is ts : List Value} {Z : List Comp} {w : World} (h : All (duoG A B ga hb T ++ (bookC b vi is vt ts ++ Z)) w) (hT : T[i]? = some r) (tw : Twin r.ps r.qs) (hl : is.length ≤ 100000000) (cl : Int) :
    Calls Try.prog 15 #[.pointer (some ⟨b, 0, none⟩), .pointer (some ⟨r.g, 0, none⟩), .pointer (some ⟨r.h, 0, none⟩), .int .i64 cl] w fun e w' => e = .returned (.bool true) ∧ ∃ vi' is', Hid (is'.length = is.length + 2 ∧ All (duoG A B ga hb T ++ (bookC b vi' is' vt ts ++ Z)) w') := by
  have h2 : All (rollL r.g r.ps ++ (xrollL r.h r.qs ++ (bookC b vi is vt ts ++ ([blkC A ga 25, blkC B hb 27] ++ (OT T i ++ Z))))) w := (h.perm (duo_out hT)).perm (by
    have := perm_by 6 [rollL r.g r.ps, xrollL r.h r.qs, [blkC A ga 25, blkC B hb 27], OT T i, bookC b vi is vt ts, Z] [0, 1, 4, 2, 3, 5] rfl (by decide)
    simpa [List.getD, List.append_assoc] using this)
  refine (klast_any tw h2 hl cl).mono ?_
  rintro e w' ⟨rfl, vi', x1, l1, y1, l2, _, H⟩
  refine ⟨rfl, vi', is ++ [x1, y1], hid ⟨by simp, ?_⟩⟩
  have h3 : All (rollL r.g r.ps ++ (xrollL r.h r.qs ++ ([blkC A ga 25, blkC B hb 27] ++ (OT T i ++ (bookC b vi' (is ++ [x1, y1]) vt ts ++ Z))))) w' := (H.out.sublist (List.Sublist.append (.refl _) (List.Sublist.append (.refl _) (List.Sublist.append (.refl _) (.cons _ (.cons _ (.refl _))))))).perm (by
    have := perm_by 6 [rollL r.g r.ps, xrollL r.h r.qs, bookC b vi' (is ++ [x1, y1]) vt ts, [blkC A ga 25, blkC B hb 27], OT T i, Z] [0, 1, 3, 4, 2, 5] rfl (by decide)
    simpa [List.getD, List.append_assoc] using this)
  have h4 := h3.perm (duo_in (r' := r) hT)
  rw [setT_same hT] at h4
  exact h4

theorem kbytes4 {A B i b : Nat} {ga hb : List Value} {T : List Rl} {r : Rl} {vi vt : Value} {is ts : List Value} {Z : List Comp} {w : World} (h : All (duoG A B ga hb T ++ (bookC b vi is vt ts ++ Z)) w) (hT : T[i]? = some r) (tw : Twin r.ps r.qs) (hl : ts.length ≤ 100000000) (cl : Int) :
    Calls Try.prog 16 #[.pointer (some ⟨b, 0, none⟩), .pointer (some ⟨r.g, 0, none⟩), .pointer (some ⟨r.h, 0, none⟩), .int .i64 cl] w fun e w' => e = .returned (.bool true) ∧ ∃ vt' ts', Hid (ts'.length = ts.length + 2 ∧ All (duoG A B ga hb T ++ (bookC b vi is vt' ts' ++ Z)) w') := by
  have h2 : All (rollL r.g r.ps ++ (xrollL r.h r.qs ++ (bookC b vi is vt ts ++ ([blkC A ga 25, blkC B hb 27] ++ (OT T i ++ Z))))) w := (h.perm (duo_out hT)).perm (by
    have := perm_by 6 [rollL r.g r.ps, xrollL r.h r.qs, [blkC A ga 25, blkC B hb 27], OT T i, bookC b vi is vt ts, Z] [0, 1, 4, 2, 3, 5] rfl (by decide)
    simpa [List.getD, List.append_assoc] using this)
  refine (kbytes_any tw h2 hl cl).mono ?_
  rintro e w' ⟨rfl, vt', x1, l1, y1, l2, _, H⟩
  refine ⟨rfl, vt', ts ++ [x1, y1], hid ⟨by simp, ?_⟩⟩
  have h3 : All (rollL r.g r.ps ++ (xrollL r.h r.qs ++ ([blkC A ga 25, blkC B hb 27] ++ (OT T i ++ (bookC b vi is vt' (ts ++ [x1, y1]) ++ Z))))) w' := (H.out.sublist (List.Sublist.append (.refl _) (List.Sublist.append (.refl _) (List.Sublist.append (.refl _) (.cons _ (.cons _ (.refl _))))))).perm (by
    have := perm_by 6 [rollL r.g r.ps, xrollL r.h r.qs, bookC b vi is vt' (ts ++ [x1, y1]), [blkC A ga 25, blkC B hb 27], OT T i, Z] [0, 1, 3, 4, 2, 5] rfl (by decide)
    simpa [List.getD, List.append_assoc] using this)
  have h4 := h3.perm (duo_in (r' := r) hT)
  rw [setT_same hT] at h4
  exact h4

theorem sp_of {A B b : Nat} {T : List Rl} {ga hb : List Value} {vi vt : Value} {LI : List (Value × List ByteArray)} {LT : List (Value × List UInt8)} {w0 w : World} (h : All (duoG A B ga hb T ++ (bookL b vi LI vt LT ++ [inC w0])) w) : Sp w b vi (LI.map Prod.fst) vt (LT.map Prod.fst) [] (LI.map fun e => (e.1, cellsT e.2)) [] (LT.map fun e => (e.1, cellsB e.2)) (duoG A B ga hb T ++ [inC w0]) := by
  refine ⟨?_, by simp, by simp⟩
  have e1 : (LI.map fun e => ((e.1, cellsT e.2) : En)).map (eC 9) = LI.map tpart := by rw [List.map_map]; rfl
  have e2 : (LT.map fun e => ((e.1, cellsB e.2) : En)).map (eC 5) = LT.map bpart := by rw [List.map_map]; rfl
  rw [e1, e2]
  refine h.perm ?_
  have := perm_by 5 [duoG A B ga hb T, bookC b vi (LI.map Prod.fst) vt (LT.map Prod.fst), LI.map tpart, LT.map bpart, [inC w0]] [1, 2, 3, 0, 4] rfl (by decide)
  simpa [List.getD, bookL, List.append_assoc] using this

theorem book_new {A B : Nat} {T : List Rl} {ga hb : List Value} {w0 w : World} (h : All (duoG A B ga hb T ++ [inC w0]) w) : All (duoG A B ga hb T ++ (bookL w.heap.size (.slice none 0 0) [] (.slice none 0 0) [] ++ [inC w0])) (w.alloc (.cells #[.slice none 0 0, .slice none 0 0] 34)) := by
  have h1 := ((h.addNil (e := 40)).addNil (e := 35)).addBlk [.slice none 0 0, .slice none 0 0] 34
  refine h1.perm ?_
  have := perm_by 5 [[blkC w.heap.size [.slice none 0 0, .slice none 0 0] 34], [ownC 35 (.slice none 0 0) []], [ownC 40 (.slice none 0 0) []], duoG A B ga hb T, [inC w0]] [3, 0, 1, 2, 4] rfl (by decide)
  simpa [List.getD, bookL, bookC] using this

theorem step_new {A B b : Nat} {T : List Rl} {ga hb : List Value} {vi vt : Value} {LI : List (Value × List ByteArray)} {LT : List (Value × List UInt8)} {w0 w : World} (h : All (duoG A B ga hb T ++ (bookL b vi LI vt LT ++ [inC w0])) w) (x : St0) : All (duoG A B ga hb T ++ (bookL b vi LI vt LT ++ [blkC w.heap.size x.cells 42, inC w0])) (w.alloc (.cells x.cells.toArray 42)) := by
  refine (h.addBlk x.cells 42).perm ?_
  have := perm_by 4 [[blkC w.heap.size x.cells 42], duoG A B ga hb T, bookL b vi LI vt LT, [inC w0]] [1, 2, 0, 3] rfl (by decide)
  simpa [List.getD] using this

/-- The rolls and the book, behind so many steps. -/
structure PS (A B b : Nat) (w0 w : World) (i : Nat) (T : List Rl) (vi vt : Value) (LI : List (Value × List ByteArray)) (LT : List (Value × List UInt8)) : Prop where
  len : T.length = 3
  tw : ∀ r ∈ T, Twin r.ps r.qs
  sI : LI.length ≤ 2 * i ∧ ∀ e ∈ LI, e.2.length ≤ 1000
  sT : LT.length ≤ 2 * i ∧ ∀ e ∈ LT, e.2.length ≤ 1000
  all : All (duoG A B (ptrG T) (ptrH T) T ++ (bookL b vi LI vt LT ++ [inC w0])) w

set_option maxHeartbeats 100000000 in
set_option maxRecDepth 1000000 in
theorem plays_walk {w : World} {v : Value} {xs : List St0} (hx : StepsAt w v xs) (hlx : xs.length ≤ 1048576) : Calls Try.prog 3 #[v] w fun e w' => e = .returned (.bool true) ∧ Below w.heap.size w w' := by
  obtain ⟨lo, lc, e0, hX⟩ := hx
  subst e0
  have HX := hid hX
  obtain ⟨N, hN⟩ : ∃ N, Hid (N = xs.length) := ⟨_, hid rfl⟩
  have hlx : N ≤ 1048576 := by rw [hN.out]; exact hlx
  rw [← hN.out]
  clear hX
  go_enter Try.func3, Try.ntmps3
  go_wp2_with fail
  refine (shown_all (All.came w)).mono ?_
  rintro e w1 ⟨rfl, A1⟩
  have A1 := hid A1
  have A2 : Hid (All (duoG w1.heap.size (w1.heap.size + 1) [nilP, nilP, nilP] [nilP, nilP, nilP] [] ++ [inC w]) ((w1.alloc (.cells #[nilP, nilP, nilP] 25)).alloc (.cells #[nilP, nilP, nilP] 27))) := hid (by
    have h := (A1.out.addBlk [nilP, nilP, nilP] 25).addBlk [nilP, nilP, nilP] 27
    have h2 := h.swap
    have e : (w1.alloc (.cells [nilP, nilP, nilP].toArray 25)).heap.size = w1.heap.size + 1 := by simp
    rw [e] at h2
    exact h2)
  obtain ⟨A, hA⟩ : ∃ A, Hid (A = w1.heap.size) := ⟨_, hid rfl⟩
  obtain ⟨B, hB⟩ : ∃ B, Hid (B = w1.heap.size + 1) := ⟨_, hid rfl⟩
  go_wp2
  rw [← hB.out, ← hA.out] at A2
  rw [← hB.out, ← hA.out]
  obtain ⟨w2, hw2⟩ : ∃ w2, w2 = (w1.alloc (.cells #[nilP, nilP, nilP] 25)).alloc (.cells #[nilP, nilP, nilP] 27) := ⟨_, rfl⟩
  have hAB : A ≠ B := by rw [hA.out, hB.out]; omega
  have hBA : B ≠ A := fun h => hAB h.symm
  clear hA hB hw2
  go_loopw [6] (fun iv wr => ∃ (i : Nat) (T : List Rl), i ≤ 3 ∧ iv = .int .i64 (i : Int) ∧ Hid (T.length = i ∧ (∀ r ∈ T, Twin r.ps r.qs) ∧ All (duoG A B (ptrG T ++ List.replicate (3 - i) nilP) (ptrH T ++ List.replicate (3 - i) nilP) T ++ [inC w]) wr)) (fun iv _ => 3 - (intOf iv).toNat)
  case atStart => exact ⟨0, [], by omega, rfl, hid ⟨rfl, fun r hr => by simp at hr, A2.out⟩⟩
  case round =>
    obtain ⟨i, T, hi, rfl, hrel⟩ := hrel
    clear A1 A2
    by_cases hlt : i < 3
    · have e3 : decide ((i : Int) < 3) = true := by simp; omega
      have lG : Hid ((ptrG T).length = i) := hid (by simp [ptrG]; exact hrel.out.1)
      have lH : Hid ((ptrH T).length = i) := hid (by simp [ptrH]; exact hrel.out.1)
      have C1 := hid (new_any hrel.out.2.2)
      go_wp2_with fail
      refine C1.out.mono ?_
      rintro e w3 ⟨g, rfl, A3⟩
      obtain ⟨c1, f1⟩ := blk_at A3 (mem_A _) (nils_at lG.out hlt)
      unfold nilP at c1
      have A4 := hid (setA A3 i (.pointer (some ⟨g, 0, none⟩)))
      rw [nils_set lG.out hlt] at A4
      clear A3 C1
      have C2 := hid (xroll_new A4.out)
      go_wp2_with fail
      refine C2.out.mono ?_
      rintro e w5 ⟨h, rfl, A5⟩
      have A5' : All ((xrollL h (List.replicate 8 .zero) ++ rollL g (List.replicate 8 .zero)) ++ (duoG A B (ptrG T ++ [.pointer (some ⟨g, 0, none⟩)] ++ List.replicate (3 - (i + 1)) nilP) (ptrH T ++ List.replicate (3 - i) nilP) T ++ [inC w])) w5 := by
        rw [List.append_assoc]; exact A5
      obtain ⟨c2, f2⟩ := blk_at A5' (mem_B _) (nils_at lH.out hlt)
      unfold nilP at c2
      have A6 := hid (setB A5' i (.pointer (some ⟨h, 0, none⟩)))
      rw [nils_set lH.out hlt, List.append_assoc (xrollL h _)] at A6
      obtain ⟨c3, f3⟩ := blk_at (j := i) (u := .pointer (some ⟨g, 0, none⟩)) A5' (mem_A _) (by rw [List.append_assoc, List.getElem?_append_right (by rw [lG.out]; omega), lG.out]; simp)
      have A7 := hid (duo_snoc (r := ⟨g, h, _, _⟩) A6.out)
      clear A5 A5' A6 C2 A4
      go_wp2
      go_roundw
      case rel => exact ⟨i + 1, T ++ [⟨g, h, _, _⟩], by omega, by go_num, hid ⟨by rw [List.length_append, hrel.out.1]; rfl, fun r hr => by
        rcases List.mem_append.1 hr with hr | hr
        · exact hrel.out.2.1 r hr
        · simp at hr; subst hr; exact Twin.new, by simpa [ptrG, ptrH] using A7.out⟩⟩
      case measure => simp [intOf]; omega
    · have e3 : decide ((i : Int) < 3) = false := by simp; omega
      have hi3 : Hid (i = 3) := hid (by omega)
      have A8 : Hid (All (duoG A B (ptrG T) (ptrH T) T ++ (bookL wr.heap.size (.slice none 0 0) [] (.slice none 0 0) [] ++ [inC w])) (wr.alloc (.cells #[.slice none 0 0, .slice none 0 0] 34))) := hid (book_new (T := T) (by have h := hrel.out.2.2; rw [hi3.out] at h; simpa using h))
      have HT3 : Hid (T.length = 3 ∧ ∀ r ∈ T, Twin r.ps r.qs) := hid ⟨by rw [hrel.out.1, hi3.out], hrel.out.2.1⟩
      obtain ⟨b, hb⟩ : ∃ b, Hid (b = wr.heap.size) := ⟨_, hid rfl⟩
      clear hrel
      go_wp2
      rw [← hb.out] at A8
      rw [← hb.out]
      clear hb
      go_loopw [8] (fun iv wr => Box (∃ (i : Nat) (T : List Rl) (vi vt : Value) (LI : List (Value × List ByteArray)) (LT : List (Value × List UInt8)), i ≤ N ∧ iv = .int .i64 (i : Int) ∧ Hid (PS A B b w wr i T vi vt LI LT))) (fun iv _ => N - (intOf iv).toNat)
      case atStart => exact ⟨⟨0, T, _, _, [], [], by omega, rfl, hid ⟨HT3.out.1, HT3.out.2, ⟨by simp, fun e he => by simp at he⟩, ⟨by simp, fun e he => by simp at he⟩, A8.out⟩⟩⟩
      case round =>
        obtain ⟨i, T, vi, vt, LI, LT, hiN, rfl, HI⟩ := hrel.out
        clear A8 HT3 hrel
        by_cases hlt : i < N
        · obtain ⟨x, hx⟩ : ∃ x, Hid (xs[i]? = some x) := ⟨xs[i]'(by rw [← hN.out]; exact hlt), hid (List.getElem?_eq_getElem _)⟩
          obtain ⟨GOOD, g, o, hlo, hgl, hcell⟩ := HX.out i x hx.out
          clear hx
          obtain ⟨kd, xon, xto, cl, n, a, c, k, s, l, dv, data⟩ := x
          subst hlo
          have hbel : Below w.heap.size w wr := HI.out.all.into (by simp)
          obtain ⟨so, sc, hso⟩ := GOOD.txt.form
          obtain ⟨do', dc, hdo⟩ := GOOD.rd.form
          simp only at hso hdo
          subst hso hdo
          have GD := hid GOOD
          have HC := hid (fun j u hu => cell_under hbel hgl (hcell j u hu))
          have x0 := HC.out 0 _ rfl
          have x1 := HC.out 1 _ rfl
          have x2 := HC.out 2 _ rfl
          have x3 := HC.out 3 _ rfl
          have x4 := HC.out 4 _ rfl
          have x5 := HC.out 5 _ rfl
          have x6 := HC.out 6 _ rfl
          have x7 := HC.out 7 _ rfl
          have x8 := HC.out 8 _ rfl
          have x9 := HC.out 9 _ rfl
          simp only [← Nat.add_assoc, Nat.add_zero] at x0 x1 x2 x3 x4 x5 x6 x7 x8 x9
          obtain ⟨w4, hw4⟩ : ∃ w4, Hid (w4 = wr.alloc (.cells #[.int .i64 kd, .int .i64 xon, .int .i64 xto, .int .i64 cl, .int .i64 n, .int .i64 a, .int .i64 c, .int .i64 k, .slice so l.length sc, .slice do' data.length dc] 42)) := ⟨_, hid rfl⟩
          obtain ⟨ob, hob⟩ : ∃ ob, Hid (ob = wr.heap.size) := ⟨_, hid rfl⟩
          obtain ⟨CB, hCB⟩ : ∃ CB, Hid (CB = [.int .i64 kd, .int .i64 xon, .int .i64 xto, .int .i64 cl, .int .i64 n, .int .i64 a, .int .i64 c, .int .i64 k, .slice so l.length sc, Value.slice do' data.length dc]) := ⟨_, hid rfl⟩
          have A9 : Hid (All (duoG A B (ptrG T) (ptrH T) T ++ (bookL b vi LI vt LT ++ [blkC ob CB 42, inC w])) w4) := hid (by rw [hw4.out, hob.out, hCB.out]; exact step_new HI.out.all ⟨kd, xon, xto, cl, n, a, c, k, _, l, _, data⟩)
          have YY : Hid (∀ Y Z W, All (Y ++ (Z ++ [blkC ob CB 42, inC w])) W → W.cell? ⟨ob, 0, none⟩ = some (.int .i64 kd) ∧ W.cell? ⟨ob, 1, none⟩ = some (.int .i64 xon) ∧ W.cell? ⟨ob, 2, none⟩ = some (.int .i64 xto) ∧ W.cell? ⟨ob, 3, none⟩ = some (.int .i64 cl) ∧ W.cell? ⟨ob, 4, none⟩ = some (.int .i64 n) ∧ W.cell? ⟨ob, 5, none⟩ = some (.int .i64 a) ∧ W.cell? ⟨ob, 6, none⟩ = some (.int .i64 c) ∧ W.cell? ⟨ob, 7, none⟩ = some (.int .i64 k) ∧ W.cell? ⟨ob, 8, none⟩ = some (.slice so l.length sc) ∧ W.cell? ⟨ob, 9, none⟩ = some (.slice do' data.length dc)) := hid (by
            intro Y Z W hW
            have eb : W.heap[ob]? = some (.cells CB.toArray 42 (0, 0)) := hW.blk (by simp)
            rw [hCB.out] at eb
            refine ⟨?_, ?_, ?_, ?_, ?_, ?_, ?_, ?_, ?_, ?_⟩ <;> (rw [cell_at eb]; rfl))
          have R1 := GD.out.on
          have R2 := GD.out.dst0
          have C1 := hid (pick3_any (w := w4) R1.1 R1.2)
          have C2 := hid (pick3_any (w := w4) R2.1 R2.2)
          clear hcell HC R1 R2 GOOD
          go_wp2_with fail
          rw [← hob.out, ← hw4.out]
          clear x0 x1 x2 x3 x4 x5 x6 x7 x8 x9
          obtain ⟨y0, y1, y2, y3, y4, y5, y6, y7, y8, y9⟩ := YY.out _ _ _ A9.out
          refine C1.out.mono ?_
          rintro e w5 ⟨on, hon, rfl, rfl⟩
          clear C1 hbel
          go_wp2_with fail
          refine C2.out.mono ?_
          rintro e w6 ⟨dn, hdn, rfl, rfl⟩
          clear C2
          have hon1 : (on : Int) < 3 := by omega
          have hdn1 : (dn : Int) < 3 := by omega
          go_upto_block 4 with fail
          go_cut [12] (fun v12 wx => v12 = .bool true ∧ ∃ T' vi' vt' LI' LT', Hid (PS A B b w wx (i + 1) T' vi' vt' LI' LT'))
          case first =>
            have sIn : LI.length ≤ 2097152 := by have := HI.out.sI.1; omega
            have sTn : LT.length ≤ 2097152 := by have := HI.out.sT.1; omega
            obtain ⟨r, hr⟩ : ∃ r, Hid (T[on]? = some r) := ⟨T[on]'(by rw [HI.out.len]; exact hon), hid (List.getElem?_eq_getElem _)⟩
            have htw := hid (HI.out.tw r (List.mem_of_getElem? hr.out))
            obtain ⟨pg, _⟩ := blk_at (j := on) (u := .pointer (some ⟨r.g, 0, none⟩)) A9.out (mem_A []) (by simp [ptrG, hr.out])
            obtain ⟨ph, _⟩ := blk_at (j := on) (u := .pointer (some ⟨r.h, 0, none⟩)) A9.out (mem_B []) (by simp [ptrH, hr.out])
            by_cases k1 : kd = 1
            · subst k1
              have TX : Hid (∀ (Y : List Comp) W, All (Y ++ [blkC ob CB 42, inC w]) W → Txts W (.slice so l.length sc) l) := hid (fun Y W hW => GD.out.txt.later (hW.into (by simp)))
              have hl20 : Hid (l.length ≤ 1048576) := hid GD.out.fewT
              have C11 := hid (lent_any (n := n) (a := a) (c := c) (k := k) (s := .slice so l.length sc) (l := l) A9.out (fun w' hw => TX.out (duoG A B (ptrG T) (ptrH T) T ++ bookL b vi LI vt LT) w' (by rw [List.append_assoc]; exact hw)) hl20.out)
              go_wp2_with fail
              refine C11.out.mono ?_
              rintro e w7 ⟨H, rfl, H1⟩
              obtain ⟨w8, hw8⟩ : ∃ w8, Hid (w8 = w7.alloc (.cells #[.int .i64 n, .int .i64 a, .int .i64 c, .int .i64 k, .slice (some ⟨H, 0, none⟩) l.length (l.length + 3)] 39)) := ⟨_, hid rfl⟩
              obtain ⟨R, hR⟩ : ∃ R, Hid (R = w7.heap.size) := ⟨_, hid rfl⟩
              have H2 : Hid (All (duoG A B (ptrG T) (ptrH T) T ++ ([blkC R [.int .i64 n, .int .i64 a, .int .i64 c, .int .i64 k, .slice (some ⟨H, 0, none⟩) l.length (l.length + 3)] 39, blkC H (cellsT l ++ [spS, spS, spS]) 9] ++ (bookL b vi LI vt LT ++ [blkC ob CB 42, inC w]))) w8) := hid (by
                rw [hw8.out, hR.out]
                refine (H1.out.addBlk [.int .i64 n, .int .i64 a, .int .i64 c, .int .i64 k, .slice (some ⟨H, 0, none⟩) l.length (l.length + 3)] 39).perm ?_
                have := perm_by 3 [[blkC w7.heap.size [.int .i64 n, .int .i64 a, .int .i64 c, .int .i64 k, .slice (some ⟨H, 0, none⟩) l.length (l.length + 3)] 39, blkC H (cellsT l ++ [spS, spS, spS]) 9], duoG A B (ptrG T) (ptrH T) T, bookL b vi LI vt LT ++ [blkC ob CB 42, inC w]] [1, 0, 2] rfl (by decide)
                simpa [List.getD] using this)
              have TH : Txts w8.drew (.slice (some ⟨H, 0, none⟩) l.length (l.length + 3)) l := txts_lent (H2.out.drew.blk (g := H) (by simp))
              have C12 := hid (set3 (cl := cl) (n := n) (a := a) (c := c) (k := k) H2.out.drew hr.out htw.out.okp.1 TH (by have := hl20.out; omega))
              have CP2 : Hid (All (((duoG A B (ptrG T) (ptrH T) T ++ [blkC R [.int .i64 n, .int .i64 a, .int .i64 c, .int .i64 k, .slice (some ⟨H, 0, none⟩) l.length (l.length + 3)] 39, blkC H (cellsT l ++ [spS, spS, spS]) 9])) ++ (bookL b vi LI vt LT ++ [blkC ob CB 42, inC w])) w8) := hid (by rw [List.append_assoc]; exact H2.out)
              clear pg ph y0 y1 y2 y3 y4 y5 y6 y7 y8 y9 TH C11
              obtain ⟨y0, y1, y2, y3, y4, y5, y6, y7, y8, y9⟩ := YY.out _ _ _ CP2.out
              obtain ⟨pg, _⟩ := blk_at (j := on) (u := .pointer (some ⟨r.g, 0, none⟩)) H2.out (mem_A []) (by simp [ptrG, hr.out])
              have eR : w8.heap[R]? = some (.cells #[.int .i64 n, .int .i64 a, .int .i64 c, .int .i64 k, .slice (some ⟨H, 0, none⟩) l.length (l.length + 3)] 39 (0, 0)) := H2.out.blk (by simp)
              have z0 : w8.cell? ⟨R, 0, none⟩ = some (.int .i64 n) := by rw [cell_at eR]; rfl
              have z1 : w8.cell? ⟨R, 1, none⟩ = some (.int .i64 a) := by rw [cell_at eR]; rfl
              have z2 : w8.cell? ⟨R, 2, none⟩ = some (.int .i64 c) := by rw [cell_at eR]; rfl
              have z3 : w8.cell? ⟨R, 3, none⟩ = some (.int .i64 k) := by rw [cell_at eR]; rfl
              have z4 : w8.cell? ⟨R, 4, none⟩ = some (.slice (some ⟨H, 0, none⟩) l.length (l.length + 3)) := by rw [cell_at eR]; rfl
              clear eR CP2
              have KP : Hid (∀ W ps', All (duoG A B (ptrG T) (ptrH T) (T.set on { r with ps := ps' }) ++ ([blkC R [.int .i64 n, .int .i64 a, .int .i64 c, .int .i64 k, .slice (some ⟨H, 0, none⟩) l.length (l.length + 3)] 39, blkC H (cellsT l ++ [spS, spS, spS]) 9] ++ (bookL b vi LI vt LT ++ [blkC ob CB 42, inC w]))) W → W.cell? ⟨A, on, none⟩ = some (.pointer (some ⟨r.g, 0, none⟩)) ∧ W.cell? ⟨ob, 3, none⟩ = some (.int .i64 cl) ∧ W.cell? ⟨R, 0, none⟩ = some (.int .i64 n) ∧ W.cell? ⟨R, 1, none⟩ = some (.int .i64 a) ∧ W.cell? ⟨R, 2, none⟩ = some (.int .i64 c) ∧ W.cell? ⟨R, 3, none⟩ = some (.int .i64 k) ∧ W.cell? ⟨R, 4, none⟩ = some (.slice (some ⟨H, 0, none⟩) l.length (l.length + 3))) := hid (by
                intro W ps' hW
                have eR : W.heap[R]? = some (.cells #[.int .i64 n, .int .i64 a, .int .i64 c, .int .i64 k, .slice (some ⟨H, 0, none⟩) l.length (l.length + 3)] 39 (0, 0)) := hW.blk (by simp)
                refine ⟨(blk_at (j := on) (u := .pointer (some ⟨r.g, 0, none⟩)) hW (mem_A []) (by simp [ptrG, hr.out])).1, (YY.out (duoG A B (ptrG T) (ptrH T) (T.set on { r with ps := ps' }) ++ [blkC R [.int .i64 n, .int .i64 a, .int .i64 c, .int .i64 k, .slice (some ⟨H, 0, none⟩) l.length (l.length + 3)] 39, blkC H (cellsT l ++ [spS, spS, spS]) 9]) (bookL b vi LI vt LT) W (by rw [List.append_assoc]; exact hW)).2.2.2.1, ?_, ?_, ?_, ?_, ?_⟩ <;> (rw [cell_at eR]; rfl))
              go_upto_region 22 with fail
              rw [← hR.out, ← hw8.out]
              go_cut [15] (fun v15 wx => v15 = .int .i64 (setE r.ps cl n a c k l) ∧ ∃ ps' wy, wy = wx ∧ Hid (All (duoG A B (ptrG T) (ptrH T) (T.set on { r with ps := ps' }) ++ ([blkC R [.int .i64 n, .int .i64 a, .int .i64 c, .int .i64 k, .slice (some ⟨H, 0, none⟩) l.length (l.length + 3)] 39, blkC H (cellsT l ++ [spS, spS, spS]) 9] ++ (bookL b vi LI vt LT ++ [blkC ob CB 42, inC w]))) wy ∧ ((setE r.ps cl n a c k l ≠ 0 ∧ ps' = r.ps) ∨ (setE r.ps cl n a c k l = 0 ∧ ∃ s', ps' = r.ps.set cl.toNat ⟨true, n, a, c, k, s', l⟩))))
              case first =>
                go_region_held3 (fun w' => w'.cell? ⟨A, on, none⟩ = some (.pointer (some ⟨r.g, 0, none⟩)) ∧ w'.cell? ⟨ob, 3, none⟩ = some (.int .i64 cl) ∧ w'.cell? ⟨R, 0, none⟩ = some (.int .i64 n) ∧ w'.cell? ⟨R, 1, none⟩ = some (.int .i64 a) ∧ w'.cell? ⟨R, 2, none⟩ = some (.int .i64 c) ∧ w'.cell? ⟨R, 3, none⟩ = some (.int .i64 k) ∧ w'.cell? ⟨R, 4, none⟩ = some (.slice (some ⟨H, 0, none⟩) l.length (l.length + 3))) (go_keep)
                  (first | (go_at_call 12; refine C12.out.mono ?_; rintro e w9 ⟨rfl, ps', H3⟩; obtain ⟨s1, s2, s3, s4, s5, s6, s7⟩ := KP.out _ _ H3.out.1))
                go_wp2_with fail
                go_meet
                exact ⟨rfl, ps', _, rfl, H3⟩
              case rest =>
              obtain ⟨rfl, ps', wy, rfl, H3⟩ := hcut
              clear pg y0 y1 y2 y3 y4 y5 y6 y7 y8 y9 z0 z1 z2 z3 z4 C12 H2
              obtain ⟨T1, hT1⟩ : ∃ T1, Hid (T1 = T.set on { r with ps := ps' }) := ⟨_, hid rfl⟩
              have hr1 : Hid (T1[on]? = some { r with ps := ps' }) := hid (by rw [hT1.out, List.getElem?_set_self (by rw [HI.out.len]; exact hon)])
              have H4 : Hid (All (blkC H (cellsT l ++ [spS, spS, spS]) 9 :: ((duoG A B (ptrG T) (ptrH T) T1 ++ [blkC R [.int .i64 n, .int .i64 a, .int .i64 c, .int .i64 k, .slice (some ⟨H, 0, none⟩) l.length (l.length + 3)] 39]) ++ (bookL b vi LI vt LT ++ [blkC ob CB 42, inC w]))) wy) := hid (by
                have h := H3.out.1
                rw [← hT1.out] at h
                refine h.perm ?_
                have := perm_by 4 [duoG A B (ptrG T) (ptrH T) T1, [blkC R [.int .i64 n, .int .i64 a, .int .i64 c, .int .i64 k, .slice (some ⟨H, 0, none⟩) l.length (l.length + 3)] 39], [blkC H (cellsT l ++ [spS, spS, spS]) 9], bookL b vi LI vt LT ++ [blkC ob CB 42, inC w]] [2, 0, 1, 3] rfl (by decide)
                simpa [List.getD, List.append_assoc] using this)
              have HCS := hid H3.out.2
              have C13 := hid (gone_any (s := .slice so l.length sc) H4.out (fun w' hw => TX.out ((duoG A B (ptrG T) (ptrH T) T1 ++ [blkC R [.int .i64 n, .int .i64 a, .int .i64 c, .int .i64 k, .slice (some ⟨H, 0, none⟩) l.length (l.length + 3)] 39]) ++ bookL b vi LI vt LT) w' (by rw [List.append_assoc]; exact hw)) hl20.out)
              obtain ⟨y0, y1, y2, y3, y4, y5, y6, y7, y8, y9⟩ := YY.out _ _ _ H4.out.tail
              clear H3
              go_wp2_with fail
              refine C13.out.mono ?_
              rintro e w10 ⟨rfl, H5⟩
              have H5 := hid H5
              clear y0 y1 y2 y3 y4 y5 y6 y7 y8 y9 C13 H4
              obtain ⟨y0, y1, y2, y3, y4, y5, y6, y7, y8, y9⟩ := YY.out _ _ _ H5.out
              have H6 : Hid (All (duoG A B (ptrG T) (ptrH T) T1 ++ ([blkC R [.int .i64 n, .int .i64 a, .int .i64 c, .int .i64 k, .slice (some ⟨H, 0, none⟩) l.length (l.length + 3)] 39] ++ (bookL b vi LI vt LT ++ [blkC ob CB 42, inC w]))) w10) := hid (by rw [← List.append_assoc]; exact H5.out)
              obtain ⟨ph, _⟩ := blk_at (j := on) (u := .pointer (some ⟨r.h, 0, none⟩)) H6.out (mem_B []) (by simp [ptrH, hr.out])
              have C14 := hid (xset3 (r := { r with ps := ps' }) (cl := cl) (n := n) (a := a) (c := c) (k := k) (s := .slice so l.length sc) (l := l) H6.out.drew hr1.out htw.out.okq.1 (fun w' hw => TX.out ([blkC R [.int .i64 n, .int .i64 a, .int .i64 c, .int .i64 k, .slice (some ⟨H, 0, none⟩) l.length (l.length + 3)] 39] ++ bookL b vi LI vt LT) w' (by rw [List.append_assoc]; exact hw)) (by have := hl20.out; omega))
              simp only at C14
              rw [htw.out.setE] at C14
              obtain ⟨E, hE⟩ : ∃ E, Hid (E = setE r.ps cl n a c k l) := ⟨_, hid rfl⟩
              rw [← hE.out] at C14 HCS
              have FIN : Hid (∀ W qs', All (duoG A B (ptrG T) (ptrH T) (T1.set on { r with ps := ps', qs := qs' }) ++ ([blkC R [.int .i64 n, .int .i64 a, .int .i64 c, .int .i64 k, .slice (some ⟨H, 0, none⟩) l.length (l.length + 3)] 39] ++ (bookL b vi LI vt LT ++ [blkC ob CB 42, inC w]))) W → ((E ≠ 0 ∧ qs' = r.qs) ∨ (E = 0 ∧ ∃ s', qs' = r.qs.set cl.toNat ⟨true, n, a, c, k, s', l⟩)) → ∃ T' vi' vt' LI' LT', Hid (PS A B b w W (i + 1) T' vi' vt' LI' LT')) := hid (by
                intro W qs' hW hq
                rw [hT1.out, List.set_set] at hW
                obtain ⟨e1, e2⟩ := ptr_set hr.out { r with ps := ps', qs := qs' } rfl rfl
                refine ⟨T.set on { r with ps := ps', qs := qs' }, vi, vt, LI, LT, hid ⟨by rw [List.length_set]; exact HI.out.len, fun x hx => ?_, ⟨by have := HI.out.sI.1; omega, HI.out.sI.2⟩, ⟨by have := HI.out.sT.1; omega, HI.out.sT.2⟩, ?_⟩⟩
                · rcases List.mem_or_eq_of_mem_set hx with hx | rfl
                  · exact HI.out.tw x hx
                  · rcases HCS.out with ⟨h0, h1⟩ | ⟨h0, s1, h1⟩
                    · rcases hq with ⟨_, h2⟩ | ⟨h2, _⟩
                      · simp only
                        rw [h1, h2]; exact htw.out
                      · exact absurd h2 h0
                    · rcases hq with ⟨h2, _⟩ | ⟨_, s2, h2⟩
                      · exact absurd h0 h2
                      · simp only
                        rw [h1, h2]
                        obtain ⟨z1, z2⟩ := setE_zero (hE.out ▸ h0)
                        exact htw.out.set z1 z2
                · rw [e1, e2]
                  exact hW.sublist (List.Sublist.append (.refl _) (.cons _ (List.Sublist.append (.refl _) (.cons _ (.refl _))))))
              clear y0 y1 y2
              go_upto_region 24 with fail
              rw [← hE.out]
              go_region_held3 (fun w' => w'.cell? ⟨B, on, none⟩ = some (.pointer (some ⟨r.h, 0, none⟩)) ∧ w'.cell? ⟨ob, 3, none⟩ = some (.int .i64 cl) ∧ w'.cell? ⟨ob, 4, none⟩ = some (.int .i64 n) ∧ w'.cell? ⟨ob, 5, none⟩ = some (.int .i64 a) ∧ w'.cell? ⟨ob, 6, none⟩ = some (.int .i64 c) ∧ w'.cell? ⟨ob, 7, none⟩ = some (.int .i64 k) ∧ w'.cell? ⟨ob, 8, none⟩ = some (.slice so l.length sc)) (go_keep)
                (first | (go_at_call 14; refine C14.out.mono ?_; rintro e w11 ⟨rfl, qs', H7⟩; have s1 := (blk_at (j := on) (u := .pointer (some ⟨r.h, 0, none⟩)) H7.out.1 (mem_B []) (by simp [ptrH, hr.out])).1; obtain ⟨_, _, _, s2, s3, s4, s5, s6, s7, _⟩ := YY.out (duoG A B (ptrG T) (ptrH T) (T1.set on { r with ps := ps', qs := qs' }) ++ [blkC R [.int .i64 n, .int .i64 a, .int .i64 c, .int .i64 k, .slice (some ⟨H, 0, none⟩) l.length (l.length + 3)] 39]) (bookL b vi LI vt LT) w11 (by rw [List.append_assoc]; exact H7.out.1)))
              go_wp2_with fail
              go_meet
              exact ⟨by simp, FIN.out _ _ H7.out.1 H7.out.2⟩
            have q1 : (kd == 1) = false := by simpa using k1
            by_cases k2 : kd = 2
            · subst k2
              have CK := hid (klast3 A9.out.drew hr.out htw.out (by omega) HI.out.sI.2 cl)
              go_wp2_with fail
              clear y0 y1 y2 y4 y5 y6 y7 y8 y9
              go_region_held3 (fun w' => w'.cell? ⟨A, on, none⟩ = some (.pointer (some ⟨r.g, 0, none⟩)) ∧ w'.cell? ⟨B, on, none⟩ = some (.pointer (some ⟨r.h, 0, none⟩)) ∧ w'.cell? ⟨ob, 3, none⟩ = some (.int .i64 cl)) (go_keep)
                (first | (go_at_call 15; refine CK.out.mono ?_; rintro e w7 ⟨rfl, vi', LI', H7⟩; have s1 := (blk_at (j := on) (u := .pointer (some ⟨r.g, 0, none⟩)) H7.out.2.2 (mem_A []) (by simp [ptrG, hr.out])).1; have s2 := (blk_at (j := on) (u := .pointer (some ⟨r.h, 0, none⟩)) H7.out.2.2 (mem_B []) (by simp [ptrH, hr.out])).1; have s3 := (YY.out _ _ _ H7.out.2.2).2.2.2.1))
              go_wp2_with fail
              go_meet
              exact ⟨rfl, T, vi', vt, LI', LT, hid ⟨HI.out.len, HI.out.tw, ⟨by have := HI.out.sI.1; have := H7.out.1; omega, H7.out.2.1⟩, ⟨by have := HI.out.sT.1; omega, HI.out.sT.2⟩, H7.out.2.2.sublist (List.Sublist.append (.refl _) (List.Sublist.append (.refl _) (.cons _ (.refl _))))⟩⟩
            have q2 : (kd == 2) = false := by simpa using k2
            by_cases k3 : kd = 3
            · subst k3
              have CK := hid (kbytes3 A9.out.drew hr.out htw.out (by omega) HI.out.sT.2 cl)
              go_wp2_with fail
              clear y0 y1 y2 y4 y5 y6 y7 y8 y9
              go_region_held3 (fun w' => w'.cell? ⟨A, on, none⟩ = some (.pointer (some ⟨r.g, 0, none⟩)) ∧ w'.cell? ⟨B, on, none⟩ = some (.pointer (some ⟨r.h, 0, none⟩)) ∧ w'.cell? ⟨ob, 3, none⟩ = some (.int .i64 cl)) (go_keep)
                (first | (go_at_call 16; refine CK.out.mono ?_; rintro e w7 ⟨rfl, vt', LT', H7⟩; have s1 := (blk_at (j := on) (u := .pointer (some ⟨r.g, 0, none⟩)) H7.out.2.2 (mem_A []) (by simp [ptrG, hr.out])).1; have s2 := (blk_at (j := on) (u := .pointer (some ⟨r.h, 0, none⟩)) H7.out.2.2 (mem_B []) (by simp [ptrH, hr.out])).1; have s3 := (YY.out _ _ _ H7.out.2.2).2.2.2.1))
              go_wp2_with fail
              go_meet
              exact ⟨rfl, T, vi, vt', LI, LT', hid ⟨HI.out.len, HI.out.tw, ⟨by have := HI.out.sI.1; omega, HI.out.sI.2⟩, ⟨by have := HI.out.sT.1; have := H7.out.1; omega, H7.out.2.1⟩, H7.out.2.2.sublist (List.Sublist.append (.refl _) (List.Sublist.append (.refl _) (.cons _ (.refl _))))⟩⟩
            have q3 : (kd == 3) = false := by simpa using k3
            by_cases k4 : kd = 4
            · subst k4
              obtain ⟨r2, hr2⟩ : ∃ r2, Hid (T[dn]? = some r2) := ⟨T[dn]'(by rw [HI.out.len]; exact hdn), hid (List.getElem?_eq_getElem _)⟩
              have C17 := hid (clone3 A9.out hr.out htw.out.okp)
              go_wp2_with fail
              refine C17.out.mono ?_
              rintro e w7 ⟨K, ss, rfl, H1⟩
              obtain ⟨c1, f1⟩ := blk_at (j := dn) (u := .pointer (some ⟨r2.g, 0, none⟩)) H1.out.2 (mem_A _) (by simp [ptrG, hr2.out])
              have H2 := hid (setA H1.out.2 dn (.pointer (some ⟨K, 0, none⟩)))
              obtain ⟨ph2, _⟩ := blk_at (j := on) (u := .pointer (some ⟨r.h, 0, none⟩)) H1.out.2 (mem_B _) (by simp [ptrH, hr.out])
              have C18 := hid (xclone3 H2.out hr.out htw.out.okq)
              clear C17 pg ph y0 y1 y2 y3 y4 y5 y6 y7 y8 y9
              go_wp2_with fail
              refine C18.out.mono ?_
              rintro e w8 ⟨K', ss', rfl, H3⟩
              have H4 : Hid (All ((xrollL K' (List.zipWith withS r.qs ss') ++ rollL K (List.zipWith withS r.ps ss)) ++ (duoG A B ((ptrG T).set dn (.pointer (some ⟨K, 0, none⟩))) (ptrH T) T ++ (bookL b vi LI vt LT ++ [blkC ob CB 42, inC w]))) w8) := hid (by rw [List.append_assoc]; exact H3.out.2)
              obtain ⟨c2, f2⟩ := blk_at (j := dn) (u := .pointer (some ⟨r2.h, 0, none⟩)) H4.out (mem_B _) (by simp [ptrH, hr2.out])
              obtain ⟨c3, f3⟩ := blk_at (j := dn) (u := .pointer (some ⟨K, 0, none⟩)) H4.out (mem_A _) (by simp [ptrG, HI.out.len, hdn])
              have H5 := hid (setB H4.out dn (.pointer (some ⟨K', 0, none⟩)))
              clear C18 c1 f1 ph2
              go_wp2
              go_meet
              refine ⟨rfl, T.set dn ⟨K, K', List.zipWith withS r.ps ss, List.zipWith withS r.qs ss'⟩, vi, vt, LI, LT, hid ⟨by rw [List.length_set]; exact HI.out.len, fun x hx => ?_, ⟨by have := HI.out.sI.1; omega, HI.out.sI.2⟩, ⟨by have := HI.out.sT.1; omega, HI.out.sT.2⟩, ?_⟩⟩
              · rcases List.mem_or_eq_of_mem_set hx with hx | rfl
                · exact HI.out.tw x hx
                · exact htw.out.zip H1.out.1 H3.out.1
              · have H6 := H5.out.sublist (ds := (xrollL K' (List.zipWith withS r.qs ss') ++ rollL K (List.zipWith withS r.ps ss)) ++ (duoG A B ((ptrG T).set dn (.pointer (some ⟨K, 0, none⟩))) ((ptrH T).set dn (.pointer (some ⟨K', 0, none⟩))) T ++ (bookL b vi LI vt LT ++ [inC w]))) (List.Sublist.append (.refl _) (List.Sublist.append (.refl _) (List.Sublist.append (.refl _) (.cons _ (.refl _)))))
                rw [List.append_assoc] at H6
                have H7 := duo_new (r' := ⟨K, K', List.zipWith withS r.ps ss, List.zipWith withS r.qs ss'⟩) hr2.out (H6.perm (List.perm_append_comm_assoc _ _ _))
                have e1 : ptrG (T.set dn ⟨K, K', List.zipWith withS r.ps ss, List.zipWith withS r.qs ss'⟩) = (ptrG T).set dn (.pointer (some ⟨K, 0, none⟩)) := by simp [ptrG, List.map_set]
                have e2 : ptrH (T.set dn ⟨K, K', List.zipWith withS r.ps ss, List.zipWith withS r.qs ss'⟩) = (ptrH T).set dn (.pointer (some ⟨K', 0, none⟩)) := by simp [ptrH, List.map_set]
                rw [e1, e2]
                exact H7
            have q4 : (kd == 4) = false := by simpa using k4
            by_cases k5 : kd = 5
            · subst k5
              obtain ⟨r2, hr2⟩ : ∃ r2, Hid (T[dn]? = some r2) := ⟨T[dn]'(by rw [HI.out.len]; exact hdn), hid (List.getElem?_eq_getElem _)⟩
              have C19 := hid (rows3 A9.out hr.out htw.out.okp)
              go_wp2_with fail
              refine C19.out.mono ?_
              rintro e w7 ⟨ro, rc, bl, rfl, H1⟩
              clear C19 pg ph y0 y1 y2 y3 y4 y5 y6 y7 y8 y9
              have hbl8 : Hid (bl.length = 8) := hid (by have := congrArg List.length H1.out.1; simp [htw.out.okp.1] at this; exact this)
              have HB : Hid (∀ e ∈ bl.map Prod.snd, e.length ≤ 1048576) := hid (fun e he => by
                rw [H1.out.1] at he
                have := htw.out.okp.bytes_few _ he
                omega)
              obtain ⟨Z, hZ⟩ : ∃ Z, Hid (Z = bl.map bpart ++ (duoG A B (ptrG T) (ptrH T) T ++ (bookL b vi LI vt LT ++ [blkC ob CB 42, inC w]))) := ⟨_, hid rfl⟩
              have H2 : Hid (All (ownC 40 (.slice ro 8 rc) (bl.map Prod.fst) :: Z) w7) := hid (by rw [hZ.out]; exact H1.out.2)
              obtain ⟨G, hG, _⟩ := owns_at (k := 0) (u := (bl[0]'(by rw [hbl8.out]; omega)).1) (show w7.ownsRow 0 40 1 (.slice ro 8 rc) (bl.map Prod.fst).length (bl.map Prod.fst) from H2.out.1.2.1) (by simp [hbl8.out])
              subst hG
              have FAC : Hid (∀ j, j < 8 → ∃ u, w7.cell? ⟨G, j, none⟩ = some u ∧ w7.frozen? ⟨G, j, none⟩ = false) := hid (fun j hj => by
                obtain ⟨G', hG', h1, h2⟩ := owns_at (k := j) (u := (bl[j]'(by rw [hbl8.out]; omega)).1) (show w7.ownsRow 0 40 1 (.slice (some ⟨G, 0, none⟩) 8 rc) (bl.map Prod.fst).length (bl.map Prod.fst) from H2.out.1.2.1) (by simp [hbl8.out, hj])
                simp only [Option.some.injEq, Addr.mk.injEq, and_true] at hG'
                subst hG'
                exact ⟨_, h1, h2⟩)
              obtain ⟨y0, y1, y2, y3, y4, y5, y6, y7, y8, y9⟩ := YY.out (ownC 40 (.slice (some ⟨G, 0, none⟩) 8 rc) (bl.map Prod.fst) :: (bl.map bpart ++ duoG A B (ptrG T) (ptrH T) T)) (bookL b vi LI vt LT) w7 (by have := H1.out.2; simpa [List.append_assoc] using this)
              have HRW : Hid (∀ W vs, All (ownC 40 (.slice (some ⟨G, 0, none⟩) 8 rc) vs :: Z) W → ReadsW W (.slice do' data.length dc) data) := hid (fun W vs hW => GD.out.rd.below (hW.into (by rw [hZ.out]; simp)))
              have C10 := hid (pick_any (w := w7.drew) GD.out.cl.1 GD.out.cl.2)
              go_upto_if 146 with fail
              go_cut [17] (fun v17 wx => v17 = .slice (some ⟨G, 0, none⟩) 8 rc ∧ ∃ vs ls wy, wy = wx ∧ Hid (All (ownC 40 (.slice (some ⟨G, 0, none⟩) 8 rc) vs :: Z) wy ∧ ls.length = 8 ∧ (∀ l ∈ ls, l.length ≤ 1048576) ∧ ∀ W, All (ownC 40 (.slice (some ⟨G, 0, none⟩) 8 rc) vs :: Z) W → ListsW W (.slice (some ⟨G, 0, none⟩) 8 rc) ls))
              case first =>
                have ST : Hid (∀ j, j < 8 → ∃ vs ls, Hid (All (ownC 40 (.slice (some ⟨G, 0, none⟩) 8 rc) vs :: Z) (w7.drew.setCell ⟨G, j, none⟩ (.slice do' data.length dc)) ∧ ls.length = 8 ∧ (∀ l ∈ ls, l.length ≤ 1048576) ∧ ∀ W, All (ownC 40 (.slice (some ⟨G, 0, none⟩) 8 rc) vs :: Z) W → ListsW W (.slice (some ⟨G, 0, none⟩) 8 rc) ls)) := hid (fun j hj => by
                  refine ⟨(bl.map Prod.fst).set j (.slice do' data.length dc), (bl.map Prod.snd).set j data, hid ⟨H2.out.drew.setOwn, by simp [hbl8.out], fun l hl => ?_, fun W hW => lists_own hW (by simp [hbl8.out]) (by simp [hbl8.out]) (fun k v l hv hl => ?_)⟩⟩
                  · rcases List.mem_or_eq_of_mem_set hl with hl | rfl
                    · exact HB.out _ hl
                    · exact GD.out.fewB
                  · rw [List.getElem?_set] at hv hl
                    by_cases hjk : j = k
                    · subst hjk
                      simp [hbl8.out, hj] at hv hl
                      subst hv hl
                      exact HRW.out W _ hW
                    · rw [if_neg hjk] at hv hl
                      rw [hZ.out] at hW
                      exact bpart_reads hW hv hl)
                by_cases hd : 0 < data.length
                · have e1 : decide ((0 : Int) < (data.length : Int)) = true := decide_eq_true (by omega)
                  have e2 : decide (0 < data.length) = true := by simpa using hd
                  clear y0 y1 y2 y4 y5 y6 y7 y8
                  go_wp2_with fail
                  go_region_law (go_simp; go_at_call 10; refine C10.out.mono ?_; rintro e w8 ⟨j, hj, rfl, rfl⟩; obtain ⟨u, cu, fu⟩ := FAC.out j hj; have hj8 : (j : Int) < 8 := by omega)
                  all_goals (go_wp2_with fail; go_meet; obtain ⟨vs, ls, hh⟩ := ST.out j hj; exact ⟨rfl, vs, ls, _, rfl, hh⟩)
                · have e1 : decide ((0 : Int) < (data.length : Int)) = false := decide_eq_false (by omega)
                  have e2 : decide (0 < data.length) = false := by simpa using hd
                  clear y0 y1 y2 y4 y5 y6 y7 y8
                  go_wp2
                  go_meet
                  exact ⟨rfl, bl.map Prod.fst, bl.map Prod.snd, _, rfl, hid ⟨H2.out, by simp [hbl8.out], HB.out, fun W hW => lists_own hW (by simp [hbl8.out]) (by simp [hbl8.out]) (fun k v l hv hl => bpart_reads (by rw [hZ.out] at hW; exact hW) hv hl)⟩⟩
              case rest =>
              obtain ⟨rfl, vs, ls, wy, rfl, H3⟩ := hcut
              clear y0 y1 y2 y3 y4 y5 y6 y7 y8 y9
              have C20 := hid (load20_any H3.out.1 H3.out.2.2.2 (by rw [H3.out.2.1]; omega) H3.out.2.2.1)
              go_wp2_with fail
              refine C20.out.mono ?_
              clear C20
              rintro e w9 (⟨rfl, H4⟩ | ⟨g2, h2, ps2, qs2, rfl, H4⟩)
              · have H4 := hid H4
                go_wp2
                go_meet
                refine ⟨rfl, T, vi, vt, LI, LT, hid ⟨HI.out.len, HI.out.tw, ⟨by have := HI.out.sI.1; omega, HI.out.sI.2⟩, ⟨by have := HI.out.sT.1; omega, HI.out.sT.2⟩, ?_⟩⟩
                have h := H4.out
                rw [hZ.out] at h
                exact h.sublist (.cons _ ((List.Sublist.append (.refl _) (List.Sublist.append (.refl _) (.cons _ (.refl _)))).trans (List.sublist_append_right _ _)))
              · have H5 : Hid (All ((rollL g2 ps2 ++ xrollL h2 qs2) ++ (duoG A B (ptrG T) (ptrH T) T ++ (bookL b vi LI vt LT ++ [inC w]))) w9) := hid (by
                  have h := H4.out.2
                  rw [hZ.out] at h
                  rw [List.append_assoc]
                  exact h.sublist (List.Sublist.append (.refl _) (List.Sublist.append (.refl _) (.cons _ ((List.Sublist.append (.refl _) (List.Sublist.append (.refl _) (.cons _ (.refl _)))).trans (List.sublist_append_right _ _))))))
                have TW := hid H4.out.1
                obtain ⟨c1, f1⟩ := blk_at (j := dn) (u := .pointer (some ⟨r2.g, 0, none⟩)) H5.out (mem_A _) (by simp [ptrG, hr2.out])
                have H6 := hid (setA H5.out dn (.pointer (some ⟨g2, 0, none⟩)))
                obtain ⟨c2, f2⟩ := blk_at (j := dn) (u := .pointer (some ⟨r2.h, 0, none⟩)) H5.out (mem_B _) (by simp [ptrH, hr2.out])
                have H7 := hid (setB H6.out dn (.pointer (some ⟨h2, 0, none⟩)))
                clear H4 H5 H6
                go_wp2
                go_meet
                refine ⟨rfl, T.set dn ⟨g2, h2, ps2, qs2⟩, vi, vt, LI, LT, hid ⟨by rw [List.length_set]; exact HI.out.len, fun x hx => ?_, ⟨by have := HI.out.sI.1; omega, HI.out.sI.2⟩, ⟨by have := HI.out.sT.1; omega, HI.out.sT.2⟩, ?_⟩⟩
                · rcases List.mem_or_eq_of_mem_set hx with hx | rfl
                  · exact HI.out.tw x hx
                  · exact TW.out
                · have H8 := H7.out
                  rw [List.append_assoc] at H8
                  have H9 := duo_new (r' := ⟨g2, h2, ps2, qs2⟩) hr2.out H8
                  have e1 : ptrG (T.set dn ⟨g2, h2, ps2, qs2⟩) = (ptrG T).set dn (.pointer (some ⟨g2, 0, none⟩)) := by simp [ptrG, List.map_set]
                  have e2 : ptrH (T.set dn ⟨g2, h2, ps2, qs2⟩) = (ptrH T).set dn (.pointer (some ⟨h2, 0, none⟩)) := by simp [ptrH, List.map_set]
                  rw [e1, e2]
                  exact H9
            have q5 : (kd == 5) = false := by simpa using k5
            go_wp2
            go_meet
            exact ⟨rfl, T, vi, vt, LI, LT, hid ⟨HI.out.len, HI.out.tw, ⟨by have := HI.out.sI.1; omega, HI.out.sI.2⟩, ⟨by have := HI.out.sT.1; omega, HI.out.sT.2⟩, A9.out.sublist (List.Sublist.append (.refl _) (List.Sublist.append (.refl _) (.cons _ (.refl _))))⟩⟩
          case rest =>
          obtain ⟨rfl, T', vi', vt', LI', LT', H7⟩ := hcut
          clear y0 y1 y2 y3 y4 y5 y6 y7 y8 y9
          go_wp2
          go_roundw
          case rel => exact ⟨⟨i + 1, T', vi', vt', LI', LT', by omega, by go_num, H7⟩⟩
          case measure => simp [intOf]; omega
        · have HS := hid (sp_of HI.out.all)
          have lI : Hid ((LI.map fun e => ((e.1, cellsT e.2) : En)).length ≤ 2097152 ∧ Short (LI.map fun e => ((e.1, cellsT e.2) : En))) := hid ⟨by have := HI.out.sI.1; simp; omega, fun e he => by
            obtain ⟨y, hy, rfl⟩ := List.mem_map.1 he
            simp only [cellsT_length]
            exact HI.out.sI.2 y hy⟩
          have lT : Hid ((LT.map fun e => ((e.1, cellsB e.2) : En)).length ≤ 2097152 ∧ Short (LT.map fun e => ((e.1, cellsB e.2) : En))) := hid ⟨by have := HI.out.sT.1; simp; omega, fun e he => by
            obtain ⟨y, hy, rfl⟩ := List.mem_map.1 he
            simp only [cellsB_length]
            exact HI.out.sT.2 y hy⟩
          have C21 := hid (spoil_any HS.out (by have := lI.out.1; omega) (by have := lT.out.1; omega) lI.out.2 lT.out.2)
          have HT3 : Hid (T.length = 3 ∧ ∀ r ∈ T, Twin r.ps r.qs) := hid ⟨HI.out.len, HI.out.tw⟩
          go_wp2_with fail
          refine C21.out.mono ?_
          clear C21 HS HI
          rintro e w7 ⟨rfl, vi', is', vt', ts', H7⟩
          have A8 : Hid ((is'.length ≤ 4194304 ∧ ts'.length ≤ 4194304) ∧ All (duoG A B (ptrG T) (ptrH T) T ++ (bookC b vi' is' vt' ts' ++ [inC w])) w7) := hid ⟨⟨by have h1 := H7.out.1; have h2 := lI.out.1; omega, by have h1 := H7.out.2.1; have h2 := lT.out.1; omega⟩, H7.out.2.2.perm (List.perm_append_comm_assoc _ _ _)⟩
          clear H7 lI lT
          go_wp2
          go_loopw [22] (fun jv wr => Box (∃ (j : Nat) (vi vt : Value) (is ts : List Value), j ≤ 3 ∧ jv = .int .i64 (j : Int) ∧ Hid ((is.length ≤ 4194304 + 20 * j ∧ ts.length ≤ 4194304 + 20 * j) ∧ All (duoG A B (ptrG T) (ptrH T) T ++ (bookC b vi is vt ts ++ [inC w])) wr))) (fun jv _ => 3 - (intOf jv).toNat)
          case atStart => exact ⟨⟨0, vi', vt', is', ts', by omega, rfl, A8⟩⟩
          case round =>
            obtain ⟨j, vi, vt, is, ts, hj, rfl, HJ⟩ := hrel.out
            clear hrel A8
            by_cases hjl : j < 3
            · have ej : decide ((j : Int) < 3) = true := by simp; omega
              have hj3 : (j : Int) < 3 := by omega
              obtain ⟨r, hr⟩ : ∃ r, Hid (T[j]? = some r) := ⟨T[j]'(by rw [HT3.out.1]; exact hjl), hid (List.getElem?_eq_getElem _)⟩
              have htw := hid (HT3.out.2 r (List.mem_of_getElem? hr.out))
              go_wp2
              go_loopw [23] (fun cv wr2 => Box (∃ (cc : Int) (vi vt : Value) (is ts : List Value), -1 ≤ cc ∧ cc ≤ 9 ∧ cv = .int .i64 cc ∧ Hid (((is.length : Int) ≤ 4194304 + 20 * j + 2 * (cc + 1) ∧ (ts.length : Int) ≤ 4194304 + 20 * j + 2 * (cc + 1)) ∧ All (duoG A B (ptrG T) (ptrH T) T ++ (bookC b vi is vt ts ++ [inC w])) wr2))) (fun cv _ => (9 - intOf cv).toNat)
              case atStart => exact ⟨⟨-1, vi, vt, is, ts, by omega, by omega, rfl, hid ⟨⟨by have := HJ.out.1.1; omega, by have := HJ.out.1.2; omega⟩, HJ.out.2⟩⟩⟩
              case round =>
                obtain ⟨cc, vi, vt, is, ts, hc1, hc9, rfl, HK⟩ := hrel.out
                clear hrel
                by_cases hcl : cc < 9
                · have ec : decide (cc < 9) = true := by simpa using hcl
                  have CK := hid (klast4 HK.out.2.drew hr.out htw.out (by have := HK.out.1.1; omega) cc)
                  obtain ⟨pg, _⟩ := blk_at (j := j) (u := .pointer (some ⟨r.g, 0, none⟩)) HK.out.2 (mem_A []) (by simp [ptrG, hr.out])
                  obtain ⟨ph, _⟩ := blk_at (j := j) (u := .pointer (some ⟨r.h, 0, none⟩)) HK.out.2 (mem_B []) (by simp [ptrH, hr.out])
                  go_upto_region 51 with fail
                  go_cut [24] (fun v24 wx => v24 = .bool true ∧ ∃ vi' is' wy, wy = wx ∧ Hid (is'.length = is.length + 2 ∧ All (duoG A B (ptrG T) (ptrH T) T ++ (bookC b vi' is' vt ts ++ [inC w])) wy))
                  case first =>
                    go_region_held3 (fun w' => w'.cell? ⟨A, j, none⟩ = some (.pointer (some ⟨r.g, 0, none⟩)) ∧ w'.cell? ⟨B, j, none⟩ = some (.pointer (some ⟨r.h, 0, none⟩))) (go_keep)
                      (first | (go_at_call 15; refine CK.out.mono ?_; rintro e w8 ⟨rfl, vi', is', H8⟩; have s1 := (blk_at (j := j) (u := .pointer (some ⟨r.g, 0, none⟩)) H8.out.2 (mem_A []) (by simp [ptrG, hr.out])).1; have s2 := (blk_at (j := j) (u := .pointer (some ⟨r.h, 0, none⟩)) H8.out.2 (mem_B []) (by simp [ptrH, hr.out])).1))
                    go_wp2_with fail
                    go_meet
                    exact ⟨rfl, vi', is', _, rfl, H8⟩
                  case rest =>
                  obtain ⟨rfl, vi', is', wy, rfl, H8⟩ := hcut
                  clear pg ph CK
                  have CB2 := hid (kbytes4 H8.out.2.drew hr.out htw.out (by have := HK.out.1.2; omega) cc)
                  obtain ⟨pg, _⟩ := blk_at (j := j) (u := .pointer (some ⟨r.g, 0, none⟩)) H8.out.2 (mem_A []) (by simp [ptrG, hr.out])
                  obtain ⟨ph, _⟩ := blk_at (j := j) (u := .pointer (some ⟨r.h, 0, none⟩)) H8.out.2 (mem_B []) (by simp [ptrH, hr.out])
                  go_upto_region 52 with fail
                  go_cut [25] (fun v25 wx => v25 = .bool true ∧ ∃ vt' ts' wy, wy = wx ∧ Hid (ts'.length = ts.length + 2 ∧ All (duoG A B (ptrG T) (ptrH T) T ++ (bookC b vi' is' vt' ts' ++ [inC w])) wy))
                  case first =>
                    go_region_held3 (fun w' => w'.cell? ⟨A, j, none⟩ = some (.pointer (some ⟨r.g, 0, none⟩)) ∧ w'.cell? ⟨B, j, none⟩ = some (.pointer (some ⟨r.h, 0, none⟩))) (go_keep)
                      (first | (go_at_call 16; refine CB2.out.mono ?_; rintro e w9 ⟨rfl, vt', ts', H9⟩; have s1 := (blk_at (j := j) (u := .pointer (some ⟨r.g, 0, none⟩)) H9.out.2 (mem_A []) (by simp [ptrG, hr.out])).1; have s2 := (blk_at (j := j) (u := .pointer (some ⟨r.h, 0, none⟩)) H9.out.2 (mem_B []) (by simp [ptrH, hr.out])).1))
                    go_wp2_with fail
                    go_meet
                    exact ⟨rfl, vt', ts', _, rfl, H9⟩
                  case rest =>
                  obtain ⟨rfl, vt', ts', wz, rfl, H9⟩ := hcut
                  clear pg ph CB2
                  go_wp2
                  go_roundw
                  case rel => exact ⟨⟨cc + 1, vi', vt', is', ts', by omega, by omega, by go_num, hid ⟨⟨by have h1 := HK.out.1.1; have h2 := H8.out.1; omega, by have h1 := HK.out.1.2; have h2 := H9.out.1; omega⟩, H9.out.2⟩⟩⟩
                  case measure => simp [intOf]; omega
                · have ec : decide (cc < 9) = false := by simpa using hcl
                  go_wp2
                  go_roundw
                  case rel => exact ⟨⟨j + 1, vi, vt, is, ts, by omega, by go_num, hid ⟨⟨by have := HK.out.1.1; omega, by have := HK.out.1.2; omega⟩, HK.out.2⟩⟩⟩
                  case measure => simp [intOf]; omega
            · have ej : decide ((j : Int) < 3) = false := by simp; omega
              go_wp2
              go_ret
              exact ⟨rfl, HJ.out.2.into (by simp)⟩
end Go.Proofs.Ytagdpfghooogfaa
