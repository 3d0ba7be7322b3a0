import Derived.Test.YthoppemjfdnibaaGreatDoorJ28
import Derived.Deep.RegionHeld3
namespace Go.Proofs.YthoppemjfdnibaaGreatDoor
open Go.RowKit
set_option linter.unusedVariables false

/-- Sheets with their bytes. -/
def ShD (w : World) (ls : List Sh) (ld : List (List UInt8)) : Prop := ls.length = ld.length ∧ ∀ (i : Nat) (s : Sh) (l : List UInt8), ls[i]? = some s → ld[i]? = some l → ReadsW w (.slice s.da s.dl s.dp) l
theorem ShD.later {w w' : World} {ls : List Sh} {ld : List (List UInt8)} (h : ShD w ls ld) (hb : Below w.heap.size w w') : ShD w' ls ld := ⟨h.1, fun i s l h1 h2 => (h.2 i s l h1 h2).below hb⟩
/-- A sheet that was lent. -/
def Sh1 (w : World) (s s' : Sh) (l : List UInt8) : Prop := s'.n = s.n ∧ s'.a = s.a ∧ s'.dl = s.dl ∧ s.dl = l.length ∧ s'.dl + 8 ≤ s'.dp ∧ s'.dp ≤ maxLen ∧ Reads w (.slice s'.da (s'.dl + 8) s'.dp) (lentB l 8)
/-- Sheets that were lent. -/
def ShL (w : World) (ls ls' : List Sh) (ld : List (List UInt8)) : Prop := ls'.length = ls.length ∧ ∀ (i : Nat) (s s' : Sh) (l : List UInt8), ls[i]? = some s → ls'[i]? = some s' → ld[i]? = some l → Sh1 w s s' l
theorem ShL.later {w w' : World} {ls ls' : List Sh} {ld : List (List UInt8)} (h : ShL w ls ls' ld) (hb : Below w.heap.size w w') : ShL w' ls ls' ld := ⟨h.1, fun i s s' l h1 h2 h3 => by
  obtain ⟨a, b, c, d, e, f, g⟩ := h.2 i s s' l h1 h2 h3
  exact ⟨a, b, c, d, e, f, g.below hb⟩⟩
abbrev beh : ByteArray := ⟨#[98, 101, 104, 105, 110, 100]⟩
def bE : Ent := ⟨-7, 0, 0, ⟨#[]⟩, ⟨#[]⟩, 0, 0⟩
def bS : Sh := ⟨-7, 0, none, 0, 0⟩
/-- A message that was lent. -/
structure Lt (w : World) (m m' : Ms) (li : List ByteArray) (le : List Ent) (ls ls' : List Sh) (lx : List Ent) (ld : List (List UInt8)) : Prop where
  eq : m' = { m with ra := m'.ra, rp := m'.rp, ea := m'.ea, ep := m'.ep, sa := m'.sa, sp := m'.sp, xa := m'.xa, xp := m'.xp }
  it : Txts w (.slice m'.ra (m.rl + 1) m'.rp) (li ++ [beh])
  en : Ents w m'.ea (le ++ [bE])
  ex : Ents w m'.xa (lx ++ [bE])
  sh : Shs w m'.sa (ls' ++ [bS])
  ci : m.rl + 1 ≤ m'.rp ∧ m'.rp ≤ maxLen
  ce : m.el + 1 ≤ m'.ep ∧ m'.ep ≤ maxLen
  cx : m.xl + 1 ≤ m'.xp ∧ m'.xp ≤ maxLen
  cs : m.sl + 1 ≤ m'.sp ∧ m'.sp ≤ maxLen
  sl : ShL w ls ls' ld
theorem Lt.later {w w' : World} {m m' : Ms} {li : List ByteArray} {le lx : List Ent} {ls ls' : List Sh} {ld : List (List UInt8)} (h : Lt w m m' li le ls ls' lx ld) (hb : Below w.heap.size w w') : Lt w' m m' li le ls ls' lx ld :=
  ⟨h.eq, h.it.later hb, h.en.later hb, h.ex.later hb, h.sh.later hb, h.ci, h.ce, h.cx, h.cs, h.sl.later hb⟩

theorem All.right {xs ys : List Comp} {w : World} (h : All (xs ++ ys) w) : All ys w := by
  induction xs with
  | nil => exact h
  | cons x xs ih => exact ih h.2.2
set_option maxHeartbeats 6400000 in
set_option maxRecDepth 1000000 in
theorem lent14 {w : World} (m : Ms) {li : List ByteArray} {le lx : List Ent} {ls : List Sh} {ld : List (List UInt8)} (hl : Ml w m li le ls lx) (hd : ShD w ls ld) (hI : (li.length + 1) * 16 ≤ 140737488355328) (hE : (le.length + 1) * 72 ≤ 140737488355328) (hX : (lx.length + 1) * 72 ≤ 140737488355328) (hS : (ls.length + 1) * 40 ≤ 140737488355328) (hB : ∀ l ∈ ld, l.length ≤ 140737488355000) :
    Calls Tryz.prog 14 #[.agg m.cells.toArray] w fun e w' => ∃ m' ls', e = .returned (.agg m'.cells.toArray) ∧ Below w.heap.size w w' ∧ Lt w' m m' li le ls ls' lx ld := by
  obtain ⟨b1, hb1⟩ : ∃ b, Hid (b = w.heap.size) := ⟨_, hid rfl⟩
  obtain ⟨b2', hb2⟩ : ∃ b, Hid (b = w.heap.size + 1) := ⟨_, hid rfl⟩
  have HL := hid hl
  have HD := hid hd
  have HI := hid hI
  have HE := hid hE
  have HX := hid hX
  have HS := hid hS
  have HB := hid hB
  obtain ⟨nI, hnI⟩ : ∃ n, Hid (n = li.length) := ⟨_, hid rfl⟩
  obtain ⟨nE, hnE⟩ : ∃ n, Hid (n = le.length) := ⟨_, hid rfl⟩
  obtain ⟨nX, hnX⟩ : ∃ n, Hid (n = lx.length) := ⟨_, hid rfl⟩
  have A1 : Hid (All (blkC b1 m.cells 34 :: blkC b2' zM.cells 34 :: [inC w]) ((w.alloc (.cells m.cells.toArray 34)).alloc (.cells zM.cells.toArray 34))) := hid (by
    have := (((All.came w).addBlk m.cells 34).addBlk zM.cells 34).swap
    simp only [World.size_alloc] at this
    rw [hb1.out, hb2.out]
    exact this)
  have eZ : Hid (zM.cells.toArray = #[.int .i64 0, .int .i64 0, .int .i64 0, .int .i64 0, .int .i64 0, .int .i64 0, .int .i64 0, .int .i64 0, .int .i64 0, .bool false, .int .i64 0, .string ⟨#[]⟩, .string ⟨#[]⟩, .int .i64 0, .int .i64 0, .int .i64 0, .int .i64 0, .slice none 0 0, .slice none 0 0, .int .i64 0, .int .i64 0, .slice none 0 0, .slice none 0 0]) := hid rfl
  clear hl hd hI hE hX hS hB
  generalize hPC : m.cells.toArray = PC at A1 ⊢
  go_enter Tryz.func14, Tryz.ntmps14
  go_upto_region 1 with fail
  rw [← eZ.out]
  simp only [← hb1.out]
  have e2 : b1 + 1 = b2' := by rw [hb1.out, hb2.out]
  simp only [e2]
  clear e2 hPC
  generalize (w.alloc (.cells PC 34)).alloc (.cells zM.cells.toArray 34) = w2 at A1 ⊢
  go_upto_region 2 with fail
  have A2 := hid (A1.out.addRowE 9 1)
  obtain ⟨ao, cap, w4, R, A3⟩ := appT (us := []) A2.out (HL.out.it.later (A2.out.into (w0 := w) (by simp))) HL.out.nr (by have := HI.out; omega)
  rw [Nat.zero_add, ← hnI.out] at R A3
  have R := hid R
  have c17 : (w2.alloc (.cells #[] 9)).cell? ⟨b1, 17, none⟩ = some (.slice m.ra m.rl m.rp) := by rw [cell_at (A2.out.blk (g := b1) (vs := m.cells) (t := 34) (by simp))]; rfl
  generalize w2.alloc (.cells #[] 9) = w3 at R c17 ⊢
  go_upto_region 3 with (at_builtin; refine wpList_append_run rfl _ _ 26 rfl _ _ _ _ rfl rfl R.out ?_)
  clear R c17 A2 A1
  rw [List.nil_append] at A3
  have A4 := hid (A3.alloc (.cells #[.string beh] 9))
  obtain ⟨ai, ci, w5, R, A5⟩ := appT (c := 1) (k := 1) A4.out (tx_new w4 beh) rfl (by have := HI.out; have := hnI.out; simp; omega)
  rw [show [beh].length = 1 from rfl] at R A5
  have R := hid R
  go_upto_region 4 with (at_builtin; refine wpList_append_run rfl _ _ 26 rfl _ _ _ _ rfl rfl R.out ?_)
  have hcap := row_cap A5.1.2.1
  have cp := hcap.2.1
  have HC := hid hcap
  have f1 := free_at (A5.blk (g := b1) (vs := m.cells) (t := 34) (by simp)) 17
  have c17 : w5.cell? ⟨b1, 17, none⟩ = some (.slice m.ra m.rl m.rp) := by rw [cell_at (A5.blk (g := b1) (vs := m.cells) (t := 34) (by simp))]; rfl
  have A5 := hid A5
  have hc0 : ¬ (ci = 0) := by omega
  have hnb : nI ≤ 8796093022208 := by have := HI.out; have := hnI.out; omega
  have hwb : IntKind.i64.wrap (nI : Int) = (nI : Int) := by rw [IntKind.wrap_i64]; omega
  clear R A4 A3 hcap
  go_upto_region 5 with fail
  have A6i := hid (A5.out.swap.setBlk 17 (.slice ai nI ci))
  generalize w5.setCell ⟨b1, 17, none⟩ (.slice ai nI ci) = w6 at A6i ⊢
  clear A5 f1 c17 cp hc0 hnb hwb

  go_upto_region 6 with fail
  have A2 := hid (A6i.out.addRowE 55 7)
  obtain ⟨a1e, c1e, w5e, R, A3⟩ := appEn (c := m.ep) (us := []) A2.out (HL.out.en.later (A2.out.into (w0 := w) (by simp))) HL.out.ne (by have := HE.out; omega)
  rw [Nat.zero_add, ← hnE.out] at R A3
  rw [List.nil_append] at A3
  have R := hid R
  have c18 : (w6.alloc (.cells #[] 55)).cell? ⟨b1, 18, none⟩ = some (.slice m.ea m.el m.ep) := by rw [cell_at (A2.out.blk (g := b1) (vs := (m.cells.set 17 (.slice ai nI ci))) (t := 34) (by simp))]; rfl
  generalize w6.alloc (.cells #[] 55) = w6e at R c18 ⊢
  go_upto_region 7 with (at_builtin; refine wpList_append_run rfl _ _ 29 rfl _ _ _ _ rfl rfl R.out ?_)
  clear R c18 A2 A6i
  have A4 := hid (A3.alloc (.cells bE.cells.toArray 55))
  obtain ⟨a2e, c2e, w7e, R, A5⟩ := appEn (c := 1) (k := 1) A4.out (ent_new w5e bE) rfl (by have := HE.out; have := hnE.out; simp; omega)
  rw [show [bE].length = 1 from rfl] at R A5
  have R : Hid ((Builtin.append_ #[29, 29] 29 #[.slice a1e nE c1e, .slice (some ⟨w5e.heap.size, 0, none⟩) 1 1]).run Tryz.prog (w5e.alloc (.cells #[.int .i64 (-7), .int .i64 0, .int .i64 0, .string ⟨#[]⟩, .string ⟨#[]⟩, .int .i64 0, .int .i64 0] 55)) = .ok (.slice a2e (nE + 1) c2e) w7e) := hid R
  go_upto_region 8 with (at_builtin; refine wpList_append_run rfl _ _ 29 rfl _ _ _ _ rfl rfl R.out ?_)
  have hcap := row_cap A5.1.2.1
  have cp := hcap.2.1
  have HCe := hid hcap
  have f1 := free_at (A5.blk (g := b1) (vs := (m.cells.set 17 (.slice ai nI ci))) (t := 34) (by simp)) 18
  have c18 : w7e.cell? ⟨b1, 18, none⟩ = some (.slice m.ea m.el m.ep) := by rw [cell_at (A5.blk (g := b1) (vs := (m.cells.set 17 (.slice ai nI ci))) (t := 34) (by simp))]; rfl
  have A5 := hid A5
  have hc0 : ¬ (c2e = 0) := by omega
  have hnb : nE ≤ 8796093022208 := by have := HE.out; have := hnE.out; omega
  have hwb : IntKind.i64.wrap (nE : Int) = (nE : Int) := by rw [IntKind.wrap_i64]; omega
  clear R A4 A3 hcap
  go_upto_region 9 with fail
  have A6e := hid (A5.out.swap.setBlk 18 (.slice a2e nE c2e))
  generalize w7e.setCell ⟨b1, 18, none⟩ (.slice a2e nE c2e) = w8e at A6e ⊢
  clear A5 f1 c18 cp hc0 hnb hwb

  go_upto_region 10 with fail
  have A2 := hid (A6e.out.addRowE 55 7)
  obtain ⟨a1x, c1x, w5x, R, A3⟩ := appEn (c := m.xp) (us := []) A2.out (HL.out.ex.later (A2.out.into (w0 := w) (by simp))) HL.out.nx (by have := HX.out; omega)
  rw [Nat.zero_add, ← hnX.out] at R A3
  rw [List.nil_append] at A3
  have R := hid R
  have c18 : (w8e.alloc (.cells #[] 55)).cell? ⟨b1, 22, none⟩ = some (.slice m.xa m.xl m.xp) := by rw [cell_at (A2.out.blk (g := b1) (vs := ((m.cells.set 17 (.slice ai nI ci)).set 18 (.slice a2e nE c2e))) (t := 34) (by simp))]; rfl
  generalize w8e.alloc (.cells #[] 55) = w6x at R c18 ⊢
  go_upto_region 11 with (at_builtin; refine wpList_append_run rfl _ _ 29 rfl _ _ _ _ rfl rfl R.out ?_)
  clear R c18 A2 A6e
  have A4 := hid (A3.alloc (.cells bE.cells.toArray 55))
  obtain ⟨a2x, c2x, w7x, R, A5⟩ := appEn (c := 1) (k := 1) A4.out (ent_new w5x bE) rfl (by have := HX.out; have := hnX.out; simp; omega)
  rw [show [bE].length = 1 from rfl] at R A5
  have R : Hid ((Builtin.append_ #[29, 29] 29 #[.slice a1x nX c1x, .slice (some ⟨w5x.heap.size, 0, none⟩) 1 1]).run Tryz.prog (w5x.alloc (.cells #[.int .i64 (-7), .int .i64 0, .int .i64 0, .string ⟨#[]⟩, .string ⟨#[]⟩, .int .i64 0, .int .i64 0] 55)) = .ok (.slice a2x (nX + 1) c2x) w7x) := hid R
  go_upto_region 12 with (at_builtin; refine wpList_append_run rfl _ _ 29 rfl _ _ _ _ rfl rfl R.out ?_)
  have hcap := row_cap A5.1.2.1
  have cp := hcap.2.1
  have HCx := hid hcap
  have f1 := free_at (A5.blk (g := b1) (vs := ((m.cells.set 17 (.slice ai nI ci)).set 18 (.slice a2e nE c2e))) (t := 34) (by simp)) 22
  have c18 : w7x.cell? ⟨b1, 22, none⟩ = some (.slice m.xa m.xl m.xp) := by rw [cell_at (A5.blk (g := b1) (vs := ((m.cells.set 17 (.slice ai nI ci)).set 18 (.slice a2e nE c2e))) (t := 34) (by simp))]; rfl
  have A5 := hid A5
  have hc0 : ¬ (c2x = 0) := by omega
  have hnb : nX ≤ 8796093022208 := by have := HX.out; have := hnX.out; omega
  have hwb : IntKind.i64.wrap (nX : Int) = (nX : Int) := by rw [IntKind.wrap_i64]; omega
  clear R A4 A3 hcap
  go_upto_region 13 with fail
  have A6x := hid (A5.out.swap.setBlk 22 (.slice a2x nX c2x))
  generalize w7x.setCell ⟨b1, 22, none⟩ (.slice a2x nX c2x) = w8x at A6x ⊢
  clear A5 f1 c18 cp hc0 hnb hwb

  go_upto_region 14 with fail
  have A7 := ((A6x.out.perm (List.perm_middle (l₁ := [_, _, _, _]))).swap).addRowE 57 3
  obtain ⟨RS, hRS⟩ : ∃ RS, RS = [rowC 55 7 (.slice a2x (nX + 1) c2x) (nX + 1) ((lx ++ [bE]).flatMap Ent.cells), rowC 55 7 (.slice a2e (nE + 1) c2e) (nE + 1) ((le ++ [bE]).flatMap Ent.cells), rowC 9 1 (.slice ai (nI + 1) ci) (nI + 1) (txV (li ++ [beh])), inC w] := ⟨_, rfl⟩
  obtain ⟨C3, hC3⟩ : ∃ C3, C3 = (((m.cells.set 17 (.slice ai nI ci)).set 18 (.slice a2e nE c2e)).set 22 (.slice a2x nX c2x)) := ⟨_, rfl⟩
  have K21 : Hid (C3.toArray[21]? = some (.slice m.sa m.sl m.sp)) := hid (by rw [hC3]; rfl)
  have K23 : Hid (C3.length = 23) := hid (by rw [hC3]; rfl)
  have KS : Hid (∀ a c, C3.set 21 (.slice a ls.length c) = ({ m with ra := ai, rp := ci, ea := a2e, ep := c2e, sa := a, sp := c, xa := a2x, xp := c2x } : Ms).cells) := hid (fun a c => by
    rw [hC3, hnI.out, hnE.out, hnX.out, ← HL.out.nr, ← HL.out.ne, ← HL.out.ns, ← HL.out.nx]
    rfl)
  have FR : Hid (∀ W, All RS W → (Txts W (.slice ai (nI + 1) ci) (li ++ [beh]) ∧ Ents W a2e (le ++ [bE]) ∧ Ents W a2x (lx ++ [bE])) ∧ Below w.heap.size w W) := hid (fun W hW => by
    subst hRS
    refine ⟨⟨?_, flat_row Ent.len (by decide) hW.tail.1.2.1, flat_row Ent.len (by decide) hW.1.2.1⟩, hW.into (w0 := w) (by simp)⟩
    have := Txts.row hW.tail.tail.1.2.1 (nI + 1) (by rw [hnI.out]; simp)
    rwa [List.take_of_length_le (by rw [hnI.out]; simp)] at this)
  have A7 : Hid (All (rowC 57 3 (.slice (some ⟨w8x.heap.size, 0, none⟩) 0 0) 0 ([].flatMap Sh.cells) :: ([] ++ (blkC b1 C3 34 :: blkC b2' zM.cells 34 :: RS))) (w8x.alloc (.cells #[] 57))) := hid (by rw [hRS, hC3]; exact A7)
  generalize w8x.alloc (.cells #[] 57) = w9 at A7 ⊢
  clear hRS hC3 A6x
  go_wp2
  go_loopw [6, 7] (fun sv iv wr => ∃ (k : Nat) (sa : Option Addr) (sc : Nat) (us : List Sh) (ds : List Comp), k ≤ ls.length ∧ iv = .int .i64 (k : Int) ∧ sv = .slice sa k sc ∧ Hid (us.length = k) ∧ Hid (All (rowC 57 3 (.slice sa k sc) k (us.flatMap Sh.cells) :: (ds ++ (blkC b1 C3 34 :: blkC b2' zM.cells 34 :: RS))) wr) ∧ Hid (∀ (i : Nat) (s s' : Sh) (l : List UInt8), ls[i]? = some s → us[i]? = some s' → ld[i]? = some l → s'.n = s.n ∧ s'.a = s.a ∧ s'.dl = s.dl ∧ s.dl = l.length ∧ ownC 5 (.slice s'.da (s'.dl + 8) s'.dp) (cellsB (lentB l 8)) ∈ ds)) (fun _ iv _ => ls.length - (intOf iv).toNat)
  case atStart => exact ⟨0, _, _, [], [], Nat.zero_le _, rfl, rfl, hid rfl, A7, hid (fun i s s' l h1 h2 h3 => by simp at h2)⟩
  case round =>
    clear A7
    obtain ⟨k, sa, sc, us, ds, hk, rfl, rfl, hus, HA, HF⟩ := hrel
    by_cases hlt : k < ls.length
    · obtain ⟨x, hx⟩ : ∃ x, Hid (ls[k]? = some x) := ⟨_, hid (List.getElem?_eq_getElem hlt)⟩
      obtain ⟨l, hl⟩ : ∃ l, Hid (ld[k]? = some l) := ⟨_, hid (List.getElem?_eq_getElem (by rw [← HD.out.1]; exact hlt))⟩
      have AR : Hid (∀ W cs, All (cs ++ (ds ++ (blkC b1 C3 34 :: blkC b2' zM.cells 34 :: RS))) W → All RS W ∧ W.heap[b1]? = some (.cells C3.toArray 34 (0, 0))) := hid (fun W cs hW => ⟨hW.right.right.tail.tail, hW.right.right.1.2.1⟩)
      have BW := hid ((FR.out wr (AR.out wr [_] HA.out).1).2)
      obtain ⟨g, o, ea, hg, hc⟩ := (HL.out.sh.later BW.out) k x hx.out
      have c21 : wr.cell? ⟨b1, 21, none⟩ = some (.slice (some ⟨g, o, none⟩) ls.length m.sp) := by rw [cell_at (AR.out wr [_] HA.out).2, K21.out, HL.out.ns, ea]
      have el : decide ((k : Int) < (ls.length : Int)) = true := by simpa using hlt
      have r0 : wr.cell? ⟨g, o + k * 3, none⟩ = some (.int .i64 x.n) := hc 0 _ rfl
      have r1 : wr.cell? ⟨g, o + k * 3 + 1, none⟩ = some (.int .i64 x.a) := hc 1 _ rfl
      have r2 : wr.cell? ⟨g, o + k * 3 + 2, none⟩ = some (.slice x.da x.dl x.dp) := hc 2 _ rfl
      have RD := hid ((HD.out.2 k x l hx.out hl.out).below BW.out)
      have edl : Hid (x.dl = l.length) := hid (by obtain ⟨_, _, e⟩ := RD.out.form; simp only [Value.slice.injEq] at e; exact e.2.1)
      have hll : Hid (l.length ≤ 140737488355000) := hid (HB.out l (List.mem_of_getElem? hl.out))
      clear hc ea
      have hkb : k ≤ 3518437208883 := by have := HS.out; omega
      have A8 := hid (HA.out.addBlk x.cells 57)
      have C24 := hid (lent_any A8.out (RD.out.below (ba wr _)) hll.out)
      obtain ⟨X, hX⟩ : ∃ X, Hid (X = wr.heap.size) := ⟨_, hid rfl⟩
      rw [← hX.out] at C24
      have x2 : (wr.alloc (.cells #[.int .i64 x.n, .int .i64 x.a, .slice x.da x.dl x.dp] 57)).cell? ⟨wr.heap.size, 2, none⟩ = some (.slice x.da x.dl x.dp) := by rw [cell_at (heap_alloc_new wr _)]; rfl
      go_wp2_with fail
      refine C24.out.mono ?_
      rintro e wa ⟨so, sc', rfl, A9⟩
      rw [← hX.out]
      clear C24 A8 x2 r0 r1 r2 HA RD BW c21
      have A10 := hid A9.swap
      have cp8 := hid (row_cap (n := l.length + 8) (us := cellsB (lentB l 8)) (e := 5) (size := 1) (base := 0) (by have h9 : wa.ownsRow 0 5 1 (.slice so (l.length + 8) sc') (cellsB (lentB l 8)).length (cellsB (lentB l 8)) := A9.1.2.1; rw [cellsB_length, lentB_len] at h9; exact h9))
      have cp := cp8.out.2.1
      clear A9
      have x0 : wa.cell? ⟨X, 0, none⟩ = some (.int .i64 x.n) := by rw [cell_at A10.out.1.2.1]; rfl
      have x1 : wa.cell? ⟨X, 1, none⟩ = some (.int .i64 x.a) := by rw [cell_at A10.out.1.2.1]; rfl
      have x2 : wa.cell? ⟨X, 2, none⟩ = some (.slice x.da x.dl x.dp) := by rw [cell_at A10.out.1.2.1]; rfl
      have xf := free_at A10.out.1.2.1 2
      obtain ⟨nl, hnl⟩ : ∃ n, Hid (n = l.length) := ⟨_, hid rfl⟩
      rw [← hnl.out] at cp edl hll A10
      rw [← hnl.out]
      rw [edl.out] at x2
      have hlb : nl ≤ 140737488355000 := hll.out
      have hc0 : ¬ (sc' = 0) := by omega
      go_upto_region 20 with fail
      have A11 := hid (A10.out.setBlk 2 (.slice so nl sc'))
      generalize wa.setCell ⟨X, 2, none⟩ (.slice so nl sc') = wb at A11 ⊢
      obtain ⟨s', hs'⟩ : ∃ s' : Sh, Hid (s' = ⟨x.n, x.a, so, nl, sc'⟩) := ⟨_, hid rfl⟩
      have es : Hid (x.cells.set 2 (.slice so nl sc') = s'.cells) := hid (by rw [hs'.out]; rfl)
      have ec : Hid (s'.cells.toArray = #[.int .i64 x.n, .int .i64 x.a, .slice so nl sc']) := hid (by rw [hs'.out]; rfl)
      rw [es.out] at A11
      have y0 : wb.cell? ⟨X, 0, none⟩ = some (.int .i64 x.n) := by rw [cell_at A11.out.1.2.1, ec.out]; rfl
      have y1 : wb.cell? ⟨X, 1, none⟩ = some (.int .i64 x.a) := by rw [cell_at A11.out.1.2.1, ec.out]; rfl
      have y2 : wb.cell? ⟨X, 2, none⟩ = some (.slice so nl sc') := by rw [cell_at A11.out.1.2.1, ec.out]; rfl
      have A12 := hid ((A11.out.perm (List.perm_middle (l₁ := [blkC X s'.cells 57, ownC 5 (.slice so (nl + 8) sc') (cellsB (lentB l 8))]))).alloc (.cells s'.cells.toArray 57))
      obtain ⟨sa', sc2, wc, R, A13⟩ := appSh (c := 1) (k := 1) A12.out (sh_new wb s') rfl (by have := HS.out; simp; omega)
      rw [show [s'].length = 1 from rfl] at R A13
      rw [ec.out] at R
      have R := hid R
      have A13 := hid A13
      clear A10 A11 A12 x0 x1 x2 xf hc0 cp hlb
      go_wp2_with (at_builtin; refine wpList_append_run rfl _ _ 30 rfl _ _ _ _ rfl rfl R.out ?_)
      clear R y0 y1 y2
      go_roundw
      case rel =>
        refine ⟨k + 1, sa', sc2, us ++ [s'], [blkC X s'.cells 57, ownC 5 (.slice so (nl + 8) sc') (cellsB (lentB l 8))] ++ ds, by omega, by go_num, rfl, hid (by rw [List.length_append, hus.out]; rfl), hid ?_, hid ?_⟩
        · have := A13.out
          rw [List.append_assoc]
          exact this
        · intro i s s2 l2 h1 h2 h3
          by_cases hi : i < us.length
          · rw [List.getElem?_append_left hi] at h2
            obtain ⟨q1, q2, q3, q4, q5⟩ := HF.out i s s2 l2 h1 h2 h3
            exact ⟨q1, q2, q3, q4, List.mem_append_right _ q5⟩
          · have hlt2 := (List.getElem?_eq_some_iff.1 h2).1
            rw [List.length_append] at hlt2
            have hik : i = k := by have := hus.out; simp at hlt2; omega
            subst hik
            rw [List.getElem?_append_right (by omega), show i - us.length = 0 by have := hus.out; omega] at h2
            simp only [List.getElem?_cons_zero, Option.some.injEq] at h2
            subst h2
            rw [hx.out] at h1
            rw [hl.out] at h3
            cases h1
            cases h3
            rw [hs'.out]
            exact ⟨rfl, rfl, edl.out.symm, by rw [edl.out, hnl.out], by simp⟩
      case measure => simp [intOf]; omega
    · have hkl : k = ls.length := by omega
      have el : decide ((k : Int) < (ls.length : Int)) = false := by simp; omega
      have c21 : wr.cell? ⟨b1, 21, none⟩ = some (.slice m.sa ls.length m.sp) := by rw [cell_at HA.out.tail.right.1.2.1, K21.out, HL.out.ns]
      have hkb : k ≤ 3518437208883 := by have := HS.out; omega
      have hkl := hid hkl
      go_upto_region 21 with fail
      clear c21 el
      have A4 := hid (HA.out.alloc (.cells bS.cells.toArray 57))
      obtain ⟨asx, cs2, wc, R, A5⟩ := appSh (c := 1) (k := 1) A4.out (sh_new wr bS) rfl (by have := HS.out; simp; omega)
      rw [show [bS].length = 1 from rfl] at R A5
      have R : Hid ((Builtin.append_ #[30, 30] 30 #[.slice sa k sc, .slice (some ⟨wr.heap.size, 0, none⟩) 1 1]).run Tryz.prog (wr.alloc (.cells #[.int .i64 (-7), .int .i64 0, .slice none 0 0] 57)) = .ok (.slice asx (k + 1) cs2) wc) := hid R
      go_upto_region 22 with (at_builtin; refine wpList_append_run rfl _ _ 30 rfl _ _ _ _ rfl rfl R.out ?_)
      have hcap := row_cap A5.1.2.1
      have cp := hcap.2.1
      have HCs := hid hcap
      have A5 := hid (A5.perm (List.perm_middle (l₁ := rowC 57 3 (.slice asx (k + 1) cs2) (k + 1) ((us ++ [bS]).flatMap Sh.cells) :: ds)))
      have f1 := free_at A5.out.1.2.1 21
      have c21 : wc.cell? ⟨b1, 21, none⟩ = some (.slice m.sa ls.length m.sp) := by rw [cell_at A5.out.1.2.1, K21.out, HL.out.ns]
      have hc0 : ¬ (cs2 = 0) := by omega
      have hwb : IntKind.i64.wrap (k : Int) = (k : Int) := by rw [IntKind.wrap_i64]; omega
      clear R A4 hcap HA
      go_upto_region 23 with fail
      have A6 := A5.out.setBlk 21 (.slice asx k cs2)
      rw [hkl.out, KS.out] at A6
      have A6 := hid A6
      generalize wc.setCell ⟨b1, 21, none⟩ (.slice asx ls.length cs2) = wd at A6 ⊢
      obtain ⟨m', hm'⟩ : ∃ m' : Ms, Hid (m' = { m with ra := ai, rp := ci, ea := a2e, ep := c2e, sa := asx, sp := cs2, xa := a2x, xp := c2x }) := ⟨_, hid rfl⟩
      rw [← hm'.out] at A6
      have I34 : Hid ((Tryz.prog.info? 34).map (·.size) = some m'.cells.toArray.size) := hid (show (Tryz.prog.info? 34).map (·.size) = some 23 by kernel_rfl)
      have O34 : Hid (m'.cells.toArray.all (·.oneCell') = true) := hid (by simp [Ms.cells, Value.oneCell'])
      have Z34 : Hid (zM.cells.toArray.size = m'.cells.toArray.size) := hid rfl
      have M2 : Hid (wd.heap[b1]? = some (.cells m'.cells.toArray 34 (0, 0))) := hid A6.out.1.2.1
      have R2 : Hid (wd.heap[b2']? = some (.cells zM.cells.toArray 34 (0, 0))) := hid A6.out.tail.right.1.2.1
      have AF := hid ((A6.out.perm (List.perm_middle (l₁ := blkC b1 m'.cells 34 :: rowC 57 3 (.slice asx (ls.length + 1) cs2) (ls.length + 1) ((us ++ [bS]).flatMap Sh.cells) :: ds))).setRow (vs' := m'.cells))
      obtain ⟨PM, hPM⟩ : ∃ PM, Hid (PM = m'.cells.toArray) := ⟨_, hid rfl⟩
      rw [← hPM.out] at I34 O34 Z34 M2
      clear A5 A6 f1 c21 cp hc0 hwb eZ
      go_wp2_with (first | (refine wpList_load_row rfl 34 _ rfl b1 rfl 34 PM (0, 0) _ M2.out Tryz.underlying34 rfl I34.out ?_) | (refine wpList_store_row rfl 34 _ _ rfl b2' PM rfl rfl 34 _ R2.out I34.out Z34.out O34.out ?_))
      rw [hPM.out] at I34 ⊢
      refine bodyPost_ret (v := .agg m'.cells.toArray) (results_cell_row (fn := Tryz.f14) rfl _ _ b2' 34 m'.cells.toArray (0, 0) _ rfl AF.out.1.2.1 Tryz.underlying34 rfl I34.out) rfl ?_
      have FA := FR.out _ (AF.out.tail.right (xs := blkC b1 m'.cells 34 :: rowC 57 3 (.slice asx (ls.length + 1) cs2) (ls.length + 1) ((us ++ [bS]).flatMap Sh.cells) :: ds))
      have hrow : (wd.setRow b2' m'.cells.toArray).ownsRow 0 57 3 (.slice asx (ls.length + 1) cs2) (ls.length + 1) ((us ++ [bS]).flatMap Sh.cells) := AF.out.tail.tail.1.2.1
      have enI : nI = m.rl := by rw [hnI.out, HL.out.nr]
      have enE : nE = m.el := by rw [hnE.out, HL.out.ne]
      have enX : nX = m.xl := by rw [hnX.out, HL.out.nx]
      have enS : k = m.sl := by rw [hkl.out, HL.out.ns]
      refine ⟨m', rfl, FA.2, us, ?_⟩
      have hsh : ShL (wd.setRow b2' m'.cells.toArray) ls us ld := ⟨by rw [hus.out, hkl.out], fun i s s' l h1 h2 h3 => by
        obtain ⟨q1, q2, q3, q4, q5⟩ := HF.out i s s' l h1 h2 h3
        have ho : (wd.setRow b2' m'.cells.toArray).ownsRow 0 5 1 (.slice s'.da (s'.dl + 8) s'.dp) (cellsB (lentB l 8)).length (cellsB (lentB l 8)) := (AF.out.mem (List.mem_cons_of_mem _ (List.mem_append_left _ (List.mem_cons_of_mem _ (List.mem_cons_of_mem _ q5))))).2.1
        have hcc := row_cap ho
        refine ⟨q1, q2, q3, q4, by omega, hcc.2.2, ?_⟩
        rw [cellsB_length] at ho
        exact Reads.of_owns ho⟩
      generalize wd.setRow b2' m'.cells.toArray = wf at FA hrow hsh ⊢
      have T1 := FA.1.1
      rw [enI] at T1
      rw [hm'.out]
      rw [enI] at HC
      rw [enE] at HCe
      rw [enX] at HCx
      rw [enS] at HCs
      exact ⟨rfl, T1, FA.1.2.1, FA.1.2.2, flat_row Sh.len (by decide) hrow, HC.out.2, HCe.out.2, HCx.out.2, HCs.out.2, hsh⟩
end Go.Proofs.YthoppemjfdnibaaGreatDoor

namespace Go.Proofs.YthoppemjfdnibaaGreatDoor
open Go.RowKit
set_option linter.unusedVariables false

set_option maxHeartbeats 3200000 in
set_option maxRecDepth 1000000 in
/-- Entries that are alike. -/
theorem ents71 {w : World} {a b : Option Addr} {l : List Ent} (ha : Ents w a l) (hb : Ents w b l) (ca cb : Nat) (hl : l.length ≤ 9223372036854775807) :
    Calls Tryz.prog 71 #[.slice a l.length ca, .slice b l.length cb] w fun e w' => e = .returned (.bool true) ∧ Below w.heap.size w w' := by
  have HA := hid ha
  have HB := hid hb
  clear ha hb
  go_enter Tryz.func71, Tryz.ntmps71
  go_wp2
  go_loopw [5] (fun iv wr => ∃ (k : Nat), k ≤ l.length ∧ iv = .int .i64 (k : Int) ∧ Hid (Below w.heap.size w wr)) (fun iv _ => l.length - (intOf iv).toNat)
  case atStart => exact ⟨0, by omega, rfl, hid (Below.refl _ _)⟩
  case round =>
    obtain ⟨k, hk, rfl, hB⟩ := hrel
    by_cases hlt : k < l.length
    · obtain ⟨x, hx⟩ : ∃ x, Hid (l[k]? = some x) := ⟨_, hid (List.getElem?_eq_getElem hlt)⟩
      obtain ⟨g, o, rfl, hg, hc⟩ := HA.out k x hx.out
      obtain ⟨g', o', rfl, hg', hc'⟩ := HB.out k x hx.out
      have SF : Hid (∀ W, Below w.heap.size w W → W.cell? ⟨g, o + k * 7, none⟩ = some (.int .i64 x.c) ∧ W.cell? ⟨g, o + k * 7 + 1, none⟩ = some (.int .i64 x.n) ∧ W.cell? ⟨g, o + k * 7 + 2, none⟩ = some (.int .i64 x.k) ∧ W.cell? ⟨g, o + k * 7 + 3, none⟩ = some (.string x.nm) ∧ W.cell? ⟨g, o + k * 7 + 4, none⟩ = some (.string x.tx) ∧ W.cell? ⟨g, o + k * 7 + 5, none⟩ = some (.int .i64 x.m) ∧ W.cell? ⟨g, o + k * 7 + 6, none⟩ = some (.int .i64 x.q) ∧ W.cell? ⟨g', o' + k * 7, none⟩ = some (.int .i64 x.c) ∧ W.cell? ⟨g', o' + k * 7 + 1, none⟩ = some (.int .i64 x.n) ∧ W.cell? ⟨g', o' + k * 7 + 2, none⟩ = some (.int .i64 x.k) ∧ W.cell? ⟨g', o' + k * 7 + 3, none⟩ = some (.string x.nm) ∧ W.cell? ⟨g', o' + k * 7 + 4, none⟩ = some (.string x.tx) ∧ W.cell? ⟨g', o' + k * 7 + 5, none⟩ = some (.int .i64 x.m) ∧ W.cell? ⟨g', o' + k * 7 + 6, none⟩ = some (.int .i64 x.q)) := hid (fun W hW => ⟨cell_under hW hg (hc 0 _ rfl), cell_under hW hg (hc 1 _ rfl), cell_under hW hg (hc 2 _ rfl), cell_under hW hg (hc 3 _ rfl), cell_under hW hg (hc 4 _ rfl), cell_under hW hg (hc 5 _ rfl), cell_under hW hg (hc 6 _ rfl), cell_under hW hg' (hc' 0 _ rfl), cell_under hW hg' (hc' 1 _ rfl), cell_under hW hg' (hc' 2 _ rfl), cell_under hW hg' (hc' 3 _ rfl), cell_under hW hg' (hc' 4 _ rfl), cell_under hW hg' (hc' 5 _ rfl), cell_under hW hg' (hc' 6 _ rfl)⟩)
      have p0 := hid (SF.out _ (hB.out.trans ((bd wr).mono hB.out.size)))
      have C69 : Hid (∀ W : World, Calls Tryz.prog 69 #[opV x.k x.nm x.tx x.m x.q, opV x.k x.nm x.tx x.m x.q] W fun e w' => e = .returned (.bool true) ∧ Below W.heap.size W w') := hid (fun W => sameOp69 _ _ _ _ _)
      have b0 := hid (hB.out.trans ((bd wr).mono hB.out.size))
      have q1 : (x.c != x.c) = false := by simp
      have q2 : (x.n != x.n) = false := by simp
      clear hc hc' hB
      go_wp2_with fail
      go_region_held3 (fun W => W.cell? ⟨g, o + k * 7, none⟩ = some (.int .i64 x.c) ∧ W.cell? ⟨g, o + k * 7 + 1, none⟩ = some (.int .i64 x.n) ∧ W.cell? ⟨g, o + k * 7 + 2, none⟩ = some (.int .i64 x.k) ∧ W.cell? ⟨g, o + k * 7 + 3, none⟩ = some (.string x.nm) ∧ W.cell? ⟨g, o + k * 7 + 4, none⟩ = some (.string x.tx) ∧ W.cell? ⟨g, o + k * 7 + 5, none⟩ = some (.int .i64 x.m) ∧ W.cell? ⟨g, o + k * 7 + 6, none⟩ = some (.int .i64 x.q) ∧ W.cell? ⟨g', o' + k * 7, none⟩ = some (.int .i64 x.c) ∧ W.cell? ⟨g', o' + k * 7 + 1, none⟩ = some (.int .i64 x.n) ∧ W.cell? ⟨g', o' + k * 7 + 2, none⟩ = some (.int .i64 x.k) ∧ W.cell? ⟨g', o' + k * 7 + 3, none⟩ = some (.string x.nm) ∧ W.cell? ⟨g', o' + k * 7 + 4, none⟩ = some (.string x.tx) ∧ W.cell? ⟨g', o' + k * 7 + 5, none⟩ = some (.int .i64 x.m) ∧ W.cell? ⟨g', o' + k * 7 + 6, none⟩ = some (.int .i64 x.q)) (first | exact p0.out | exact p1.out) 
        (first
          | (go_at_call 69; refine (C69.out _).mono ?_; rintro e w1 ⟨rfl, hw1⟩; have b1 := hid (b0.out.trans (hw1.mono b0.out.size)); have p1 := hid (SF.out _ b1.out); clear hw1))
      go_wp2
      go_roundw
      case rel => exact ⟨k + 1, by omega, by go_num, b1⟩
      case measure => simp [intOf]; omega
    · go_wp2
      go_ret
      exact ⟨rfl, hB.out⟩
set_option maxHeartbeats 1600000 in
set_option maxRecDepth 1000000 in
/-- Lists that are alike. -/
theorem same_w {w : World} {s t : Value} {l : List UInt8} (hs : ReadsW w s l) (ht : ReadsW w t l) (hlen : l.length ≤ 140737488355328) :
    Calls Tryz.prog 20 #[s, t] w fun e w' => e = .returned (.bool true) ∧ Below w.heap.size w w' := by
  obtain ⟨ao, c, hf⟩ := hs.form
  obtain ⟨ao', c', hf'⟩ := ht.form
  subst hf hf'
  have HS := hid hs
  have HT := hid ht
  clear hs ht
  go_enter Tryz.func20, Tryz.ntmps20
  go_wp2
  go_loopw [5] (fun iv wr => ∃ (k q : Nat), k ≤ l.length ∧ iv = .int .i64 (k : Int) ∧ wr = w.drewN q) (fun iv _ => l.length - (intOf iv).toNat)
  case atStart => exact ⟨0, 0, by omega, rfl, rfl⟩
  case round =>
    obtain ⟨k, q, hk, rfl, rfl⟩ := hrel
    by_cases hlt : k < l.length
    · obtain ⟨g, o, rfl, h1⟩ := HS.out.at_u8 k hlt
      obtain ⟨g', o', rfl, h2⟩ := HT.out.at_u8 k hlt
      generalize (l.getD k 0).toNat = x at h1 h2
      have hb : ((x : Int) != (x : Int)) = false := by simp
      go_wp2
      go_region
      go_wp2
      go_roundw
      case rel => exact ⟨k + 1, q + 1, by omega, by go_num, by simp⟩
      case measure => simp [intOf]; omega
    · go_wp2
      go_ret
      exact ⟨rfl, ⟨rfl, rfl, rfl, Nat.le_refl _, fun _ _ => rfl⟩⟩
set_option maxHeartbeats 3200000 in
set_option maxRecDepth 1000000 in
/-- Sheets that are alike. -/
theorem sheets72 {w : World} {a b : Option Addr} {l1 l2 : List Sh} {ld : List (List UInt8)} (ha : Shs w a l1) (hb : Shs w b l2) (h12 : l1.length = l2.length) (h2d : l2.length = ld.length)
    (hs : ∀ (i : Nat) (s s' : Sh) (l : List UInt8), l2[i]? = some s → l1[i]? = some s' → ld[i]? = some l → s'.n = s.n ∧ s'.a = s.a ∧ ReadsW w (.slice s'.da s'.dl s'.dp) l ∧ ReadsW w (.slice s.da s.dl s.dp) l) (hB : ∀ l ∈ ld, l.length ≤ 140737488355000) (ca cb : Nat) (hl : l2.length ≤ 9223372036854775807) :
    Calls Tryz.prog 72 #[.slice a l2.length ca, .slice b l2.length cb] w fun e w' => e = .returned (.bool true) ∧ Below w.heap.size w w' := by
  have HA := hid ha
  have HB := hid hb
  have HS := hid hs
  have HL := hid hB
  have H12 := hid h12
  have H2D := hid h2d
  clear ha hb hs hB h12 h2d
  go_enter Tryz.func72, Tryz.ntmps72
  go_wp2
  go_loopw [5] (fun iv wr => ∃ (k : Nat), k ≤ l2.length ∧ iv = .int .i64 (k : Int) ∧ Hid (Below w.heap.size w wr)) (fun iv _ => l2.length - (intOf iv).toNat)
  case atStart => exact ⟨0, by omega, rfl, hid (Below.refl _ _)⟩
  case round =>
    obtain ⟨k, hk, rfl, hB⟩ := hrel
    by_cases hlt : k < l2.length
    · obtain ⟨y, hy⟩ : ∃ x, Hid (l2[k]? = some x) := ⟨_, hid (List.getElem?_eq_getElem hlt)⟩
      obtain ⟨x, hx⟩ : ∃ x, Hid (l1[k]? = some x) := ⟨_, hid (List.getElem?_eq_getElem (by rw [H12.out]; exact hlt))⟩
      obtain ⟨d, hd⟩ : ∃ x, Hid (ld[k]? = some x) := ⟨_, hid (List.getElem?_eq_getElem (by rw [← H2D.out]; exact hlt))⟩
      obtain ⟨g, o, rfl, hg, hc⟩ := HA.out k x hx.out
      obtain ⟨g', o', rfl, hg', hc'⟩ := HB.out k y hy.out
      obtain ⟨en, ea, r1, r2⟩ := HS.out k y x d hy.out hx.out hd.out
      have SF : Hid (∀ W, Below w.heap.size w W → W.cell? ⟨g, o + k * 3, none⟩ = some (.int .i64 x.n) ∧ W.cell? ⟨g, o + k * 3 + 1, none⟩ = some (.int .i64 x.a) ∧ W.cell? ⟨g, o + k * 3 + 2, none⟩ = some (.slice x.da x.dl x.dp) ∧ W.cell? ⟨g', o' + k * 3, none⟩ = some (.int .i64 y.n) ∧ W.cell? ⟨g', o' + k * 3 + 1, none⟩ = some (.int .i64 y.a) ∧ W.cell? ⟨g', o' + k * 3 + 2, none⟩ = some (.slice y.da y.dl y.dp)) := hid (fun W hW => ⟨cell_under hW hg (hc 0 _ rfl), cell_under hW hg (hc 1 _ rfl), cell_under hW hg (hc 2 _ rfl), cell_under hW hg' (hc' 0 _ rfl), cell_under hW hg' (hc' 1 _ rfl), cell_under hW hg' (hc' 2 _ rfl)⟩)
      have p0 := hid (SF.out _ (hB.out.trans ((bd wr).mono hB.out.size)))
      have C20 : Hid (∀ W : World, Below w.heap.size w W → Calls Tryz.prog 20 #[.slice x.da x.dl x.dp, .slice y.da y.dl y.dp] W fun e w' => e = .returned (.bool true) ∧ Below W.heap.size W w') := hid (fun W hW => same_w (r1.below hW) (r2.below hW) (by have := HL.out d (List.mem_of_getElem? hd.out); omega))
      have b0 := hid (hB.out.trans ((bd wr).mono hB.out.size))
      have q1 : (x.n != y.n) = false := by rw [en]; simp
      have q2 : (x.a != y.a) = false := by rw [ea]; simp
      clear hc hc' hB en ea r1 r2
      go_wp2_with fail
      go_region_held3 (fun W => W.cell? ⟨g, o + k * 3, none⟩ = some (.int .i64 x.n) ∧ W.cell? ⟨g, o + k * 3 + 1, none⟩ = some (.int .i64 x.a) ∧ W.cell? ⟨g, o + k * 3 + 2, none⟩ = some (.slice x.da x.dl x.dp) ∧ W.cell? ⟨g', o' + k * 3, none⟩ = some (.int .i64 y.n) ∧ W.cell? ⟨g', o' + k * 3 + 1, none⟩ = some (.int .i64 y.a) ∧ W.cell? ⟨g', o' + k * 3 + 2, none⟩ = some (.slice y.da y.dl y.dp)) (first | exact p0.out | exact p1.out)
        (first
          | (go_at_call 20; refine (C20.out _ b0.out).mono ?_; rintro e w1 ⟨rfl, hw1⟩; have b1 := hid (b0.out.trans (hw1.mono b0.out.size)); have p1 := hid (SF.out _ b1.out); clear hw1))
      go_wp2
      go_roundw
      case rel => exact ⟨k + 1, by omega, by go_num, b1⟩
      case measure => simp [intOf]; omega
    · go_wp2
      go_ret
      exact ⟨rfl, hB.out⟩
end Go.Proofs.YthoppemjfdnibaaGreatDoor
