import Derived.Test.YteloaggebkbeeaaDoorJ23
import Derived.Test.YteloaggebkbeeaaDoorJ11
import Derived.Deep.Strs
namespace Go.Proofs.YteloaggebkbeeaaDoor
open Go.ChangeShapes Go.WideShapes Go.ChangeAt Go.RowKit Go.Deep Go.Joins
set_option linter.unusedVariables false

/-- Bytes that came in: an empty list may lie anywhere. -/
def ReadsW (w : World) (s : Value) (l : List UInt8) : Prop := Reads w s l ∨ (l = [] ∧ ∃ a c, s = .slice (some a) 0 c)
/-- Sheets with their bytes. -/
def ShD (w : World) (ls : List Sh) (ld : List (List UInt8)) : Prop := ls.length = ld.length ∧ ∀ (i : Nat) (s : Sh) (l : List UInt8), ls[i]? = some s → ld[i]? = some l → ReadsW w (.slice s.da s.dl s.dp) l
theorem Ent.len (e : Ent) : e.cells.length = 7 := rfl
theorem Sh.len (e : Sh) : e.cells.length = 3 := rfl
def zE : Ent := ⟨0, 0, 0, ⟨#[]⟩, ⟨#[]⟩, 0, 0⟩
def zS : Sh := ⟨0, 0, none, 0, 0⟩
theorem cx4 : Tryd.prog.cellsOf 4 = 1 := by kernel_rfl
theorem cx25 : Tryd.prog.cellsOf 32 = 5 := by kernel_rfl
theorem cx26 : Tryd.prog.cellsOf 33 = 1 := by kernel_rfl
theorem cx28 : Tryd.prog.cellsOf 35 = 3 := by kernel_rfl
theorem cx29 : Tryd.prog.cellsOf 36 = 1 := by kernel_rfl
theorem cx30 : Tryd.prog.cellsOf 37 = 1 := by kernel_rfl
theorem cx32 : Tryd.prog.cellsOf 39 = 4 := by kernel_rfl
theorem cx34 : Tryd.prog.cellsOf 41 = 23 := by kernel_rfl
theorem cx40 : Tryd.prog.cellsOf 108 = 1 := by kernel_rfl
theorem cx55 : Tryd.prog.cellsOf 98 = 7 := by kernel_rfl
theorem cx57 : Tryd.prog.cellsOf 110 = 3 := by kernel_rfl
theorem cx5 : Tryd.prog.cellsOf 5 = 1 := by kernel_rfl
theorem bo55 : Tryd.prog.bytesOf 98 = 72 := by kernel_rfl
theorem bo57 : Tryd.prog.bytesOf 110 = 40 := by kernel_rfl
theorem bo9 : Tryd.prog.bytesOf 9 = 16 := by kernel_rfl
theorem bo5 : Tryd.prog.bytesOf 5 = 1 := by kernel_rfl
theorem u8_wf {n : Int} (h : (Lit.int .u8 n).wf = true) : 0 ≤ n ∧ n < 256 := by
  have : 0 ≤ n ∧ n ≤ 255 := by simpa [Lit.wf, IntKind.min, IntKind.max, IntKind.signed, IntKind.bits] using h
  omega
theorem choose_lt {α : Type} [Inhabited α] {n : Nat} {P : Nat → α → Prop} (h : ∀ i, i < n → ∃ x, P i x) : ∃ f : Nat → α, ∀ i, i < n → P i (f i) := by
  classical
  refine ⟨fun i => if hi : i < n then Classical.choose (h i hi) else default, fun i hi => ?_⟩
  simp only [hi, dif_pos]
  exact Classical.choose_spec (h i hi)
theorem spot_of {a : Addr} {W : World} {u : Value} (h : W.cell? (a.add 0) = some u) : a.spot = none ∧ a.block < W.heap.size := by
  have h1 := World.cell?_spot h
  have h2 := World.block_lt_of_cell? W _ h
  exact ⟨by simpa [Addr.add] using h1, by simpa [Addr.add] using h2⟩
theorem reach_num : reachBytes = 140737488351232 := by decide
theorem weights_mem_all {H : Type} {P : Program} {e : TypeId} : ∀ {ds : List (DataW H)} {d : DataW H}, d ∈ ds → ∀ n ∈ d.weights P e, n ∈ DataW.weightsAll P e ds
  | x :: ds, d, hd, n, hn => by
    simp only [DataW.weightsAll, List.mem_append]
    rcases List.mem_cons.1 hd with rfl | hd
    · exact Or.inl hn
    · exact Or.inr (weights_mem_all hd n hn)
  | [], _, hd, _, _ => by cases hd
theorem list7 {l : List Value} {a b c d e f g : Value} (hl : l.length = 7) (h0 : (l.drop 0).take 1 = [a]) (h1 : (l.drop 1).take 1 = [b]) (h2 : (l.drop 2).take 5 = [c, d, e, f, g]) : l = [a, b, c, d, e, f, g] := by
  match l, hl with
  | [x0, x1, x2, x3, x4, x5, x6], _ => simp at h0 h1 h2; simp [h0, h1, h2]
theorem list3 {l : List Value} {a b c : Value} (hl : l.length = 3) (h0 : (l.drop 0).take 1 = [a]) (h1 : (l.drop 1).take 1 = [b]) (h2 : (l.drop 2).take 1 = [c]) : l = [a, b, c] := by
  match l, hl with
  | [x0, x1, x2], _ => simp at h0 h1 h2; simp [h0, h1, h2]
theorem list4 {l : List Value} {a b c d : Value} (hl : l.length = 4) (h0 : (l.drop 0).take 1 = [a]) (h1 : (l.drop 1).take 1 = [b]) (h2 : (l.drop 2).take 1 = [c]) (h3 : (l.drop 3).take 1 = [d]) : l = [a, b, c, d] := by
  match l, hl with
  | [x0, x1, x2, x3], _ => simp at h0 h1 h2 h3; simp [h0, h1, h2, h3]
theorem list23 {l : List Value} {v0 v1 v2 v3 v4 v5 v6 v7 v8 v9 v10 v11 v12 v13 v14 v15 v16 v17 v18 v19 v20 v21 v22 : Value} (hl : l.length = 23) (h0 : (l.drop 0).take 1 = [v0]) (h1 : (l.drop 1).take 1 = [v1]) (h2 : (l.drop 2).take 1 = [v2]) (h3 : (l.drop 3).take 1 = [v3]) (h4 : (l.drop 4).take 1 = [v4]) (h5 : (l.drop 5).take 1 = [v5]) (h6 : (l.drop 6).take 1 = [v6]) (h7 : (l.drop 7).take 1 = [v7]) (h8 : (l.drop 8).take 1 = [v8]) (h9 : (l.drop 9).take 1 = [v9]) (h10 : (l.drop 10).take 5 = [v10, v11, v12, v13, v14]) (h15 : (l.drop 15).take 3 = [v15, v16, v17]) (h18 : (l.drop 18).take 1 = [v18]) (h19 : (l.drop 19).take 4 = [v19, v20, v21, v22]) : l = [v0, v1, v2, v3, v4, v5, v6, v7, v8, v9, v10, v11, v12, v13, v14, v15, v16, v17, v18, v19, v20, v21, v22] := by
  match l, hl with
  | [x0, x1, x2, x3, x4, x5, x6, x7, x8, x9, x10, x11, x12, x13, x14, x15, x16, x17, x18, x19, x20, x21, x22], _ => simp at h0 h1 h2 h3 h4 h5 h6 h7 h8 h9 h10 h15 h18 h19; simp [h0, h1, h2, h3, h4, h5, h6, h7, h8, h9, h10, h15, h18, h19]
section
variable {H : Type} {enc : TypeId × Value → H} {W : World} {fuel : Nat} {cs : List Value} {x : DataW H × List MemPlace}
set_option maxRecDepth 100000 in
theorem ent_cells (h : DataW.trod enc Tryd.prog W 0 (fun _ => true) true fuel 98 cs = some x) : ∃ e : Ent, cs = e.cells := by
  obtain ⟨xs, f, _, rfl, hl, hlen, hf⟩ := DataW.trod_struct Tryd.underlying98 h
  have hlen : xs.length = 3 := hlen
  obtain ⟨y0, hy0⟩ := nth hlen (i := 0) (by omega)
  obtain ⟨y1, hy1⟩ := nth hlen (i := 1) (by omega)
  obtain ⟨y2, hy2⟩ := nth hlen (i := 2) (by omega)
  have g0 : DataW.trod enc Tryd.prog W 0 (fun _ => true) true f 3 ((cs.drop 0).take (Tryd.prog.cellsOf 3)) = some y0 := (hf 0 _ rfl).trans hy0
  rw [co3] at g0
  have g1 : DataW.trod enc Tryd.prog W 0 (fun _ => true) true f 3 ((cs.drop 1).take (Tryd.prog.cellsOf 3)) = some y1 := (hf 1 _ rfl).trans hy1
  rw [co3] at g1
  have g2 : DataW.trod enc Tryd.prog W 0 (fun _ => true) true f 32 ((cs.drop 2).take (Tryd.prog.cellsOf 32)) = some y2 := (hf 2 _ rfl).trans hy2
  rw [cx25] at g2
  rw [cx55] at hl
  obtain ⟨c, e0, _, _⟩ := DataW.trod_int Tryd.underlying3 g0
  obtain ⟨n, e1, _, _⟩ := DataW.trod_int Tryd.underlying3 g1
  obtain ⟨k, nm, tx, m, q, e2⟩ := op_cells g2
  exact ⟨⟨c, n, k, nm, tx, m, q⟩, list7 hl e0 e1 e2⟩
set_option maxRecDepth 100000 in
/-- Entries that came in. -/
theorem ents_cells (h : DataW.trod enc Tryd.prog W 0 (fun _ => true) true fuel 36 cs = some x) (hz : ∀ n ∈ x.1.weights Tryd.prog 36, n ≤ reachBytes) : ∃ ao l c, cs = [.slice ao l.length c] ∧ Ents W ao l ∧ l.length * 72 ≤ 140737488351232 := by
  rcases open_slice Tryd.underlying36 h with ⟨hcs, hx⟩ | ⟨a, len, cap, m, n, D, Pl, hcs, _, hl, hm, hmm, hx, hel⟩
  · exact ⟨none, [], 0, hcs, fun i x hx => by simp at hx, by simp⟩
  · have hlm : len ≤ m := by rw [hmm]; split <;> omega
    have each : ∀ i, i < len → ∃ e : Ent, ∀ j u, e.cells[j]? = some u → W.cell? (a.add (i * 7 + j)) = some u := by
      intro i hi
      obtain ⟨cs', h1, h2⟩ := hel i (by omega)
      rw [cx55] at h1
      obtain ⟨_, hlen, hcell⟩ := World.cells?_some h1
      obtain ⟨e, rfl⟩ := ent_cells h2
      refine ⟨e, fun j u hu => ?_⟩
      have hj : j < 7 := by
        have := (List.getElem?_eq_some_iff.1 hu).1
        rwa [e.len] at this
      have q := hcell j (by omega)
      rw [add_add] at q
      rw [q, ← hu]
    haveI : Inhabited Ent := ⟨zE⟩
    obtain ⟨f, hf'⟩ := choose_lt each
    have hw : len * 72 ≤ 140737488351232 := by
      have := hz ((len + (m - len)) * 72) (by
        rw [hx]
        simp [DataW.weights, Tryd.underlying36, bo55])
      rw [reach_num] at this
      omega
    refine ⟨some a, (List.range len).map f, cap, by simpa using hcs, fun i e he => ?_, by simpa using hw⟩
    have hi : i < len := by
      have := (List.getElem?_eq_some_iff.1 he).1
      simpa using this
    obtain rfl : f i = e := by
      rw [List.getElem?_map, List.getElem?_range hi] at he
      simpa using he
    have h00 := hf' 0 (by omega) 0 _ rfl
    obtain ⟨hsp, hb⟩ := spot_of (by simpa using h00)
    obtain ⟨b, off, sp⟩ := a
    simp only at hsp
    subst hsp
    refine ⟨b, off, rfl, hb, fun j u hu => ?_⟩
    have := hf' i hi j u hu
    rw [Addr.add_lit] at this
    rw [Nat.add_assoc]
    exact this
/-- Texts that came in. -/
theorem texts_cells (h : DataW.trod enc Tryd.prog W 0 (fun _ => true) true fuel 33 cs = some x) (hz : ∀ n ∈ x.1.weights Tryd.prog 33, n ≤ reachBytes) : ∃ ao l c, cs = [.slice ao l.length c] ∧ Txts W (.slice ao l.length c) l ∧ l.length * 16 ≤ 140737488351232 := by
  rcases open_strs Tryd.underlying33 Tryd.underlying9 co9 h with ⟨rfl, _⟩ | ⟨a, len, cap, m, Sx, rfl, _, hl, hm, hmm, hx, hc⟩
  · exact ⟨none, [], 0, rfl, ⟨none, 0, rfl, by simp, Or.inl rfl⟩, by simp⟩
  · have hlm : len ≤ m := by rw [hmm]; split <;> omega
    have hw : len * 16 ≤ 140737488351232 := by
      have := hz ((len + (m - len)) * 16) (by
        rw [hx]
        simp [DataW.weights, Tryd.underlying33, bo9])
      rw [reach_num] at this
      omega
    refine ⟨some a, (List.range len).map Sx, cap, by simp, ⟨some a, cap, by simp, by simpa using hl, ?_⟩, by simpa using hw⟩
    by_cases h0 : len = 0
    · left; subst h0; rfl
    · right
      have hc0 := (hc 0 (by omega)).1
      obtain ⟨hsp, hb⟩ := spot_of hc0
      obtain ⟨b, off, sp'⟩ := a
      simp only at hsp
      subst hsp
      refine ⟨b, off, rfl, hb, fun j hj => ?_⟩
      have hj' : j < len := by simpa using hj
      have h1 := (hc j (by omega)).1
      rw [Addr.add_lit] at h1
      rw [h1]
      simp
/-- Bytes that came in. -/
theorem bytes_cells (h : DataW.trod enc Tryd.prog W 0 (fun _ => true) true fuel 108 cs = some x) (hz : ∀ n ∈ x.1.weights Tryd.prog 108, n ≤ reachBytes) : ∃ ao l c, cs = [.slice ao l.length c] ∧ ReadsW W (.slice ao l.length c) l ∧ l.length ≤ 140737488351232 := by
  rcases open_ints Tryd.underlying108 Tryd.underlying5 cx5 h with ⟨rfl, _⟩ | ⟨a, len, cap, zs, rfl, _, hl, hm, hzl, hx, hcell, hwz⟩
  · exact ⟨none, [], 0, rfl, Or.inl ⟨none, 0, rfl, Nat.le_refl _, Or.inl ⟨rfl, rfl, rfl⟩⟩, by simp⟩
  · simp only [if_true] at hzl
    have hw : len ≤ 140737488351232 := by
      have := hz ((len + (zs.length - len)) * 1) (by
        rw [hx]
        simp [DataW.weights, Tryd.underlying108, bo5, lits, Nat.min_eq_left (show len ≤ zs.length by omega)])
      rw [reach_num] at this
      omega
    have hlz : ((zs.take len).map fun z => UInt8.ofNat z.toNat).length = len := by simp; omega
    refine ⟨some a, (zs.take len).map fun z => UInt8.ofNat z.toNat, cap, by rw [hlz], ?_, by rw [hlz]; exact hw⟩
    by_cases h0 : len = 0
    · subst h0
      exact Or.inr ⟨by simp, a, cap, by simp⟩
    · left
      have hc0 := hcell 0 (by omega)
      obtain ⟨hsp, hb⟩ := spot_of hc0
      obtain ⟨b, off, sp⟩ := a
      simp only at hsp
      subst hsp
      refine ⟨_, cap, by rw [hlz], by rw [hlz]; exact hl, Or.inr ⟨b, off, rfl, hb, fun j u hu => ?_⟩⟩
      have hj : j < len := by
        have := (List.getElem?_eq_some_iff.1 hu).1
        rw [cellsB_length, hlz] at this
        exact this
      have hjz : j < zs.length := by omega
      have hc := hcell j hjz
      rw [Addr.add_lit] at hc
      rw [hc, ← hu]
      have hw2 := u8_wf (hwz zs[j] (List.getElem_mem hjz))
      have e : ((UInt8.ofNat zs[j].toNat).toNat : Int) = zs[j] := by
        rw [UInt8.toNat_ofNat']
        omega
      simp only [cellsB, List.getElem?_map, List.getElem?_take, hj, if_true, List.getElem?_eq_getElem hjz, Option.map_some, List.getD, Option.getD_some, e]
set_option maxRecDepth 100000 in
theorem sh_cells (h : DataW.trod enc Tryd.prog W 0 (fun _ => true) true fuel 110 cs = some x) (hz : ∀ n ∈ x.1.weights Tryd.prog 110, n ≤ reachBytes) : ∃ (s : Sh) (l : List UInt8), cs = s.cells ∧ ReadsW W (.slice s.da s.dl s.dp) l ∧ l.length ≤ 140737488351232 := by
  obtain ⟨xs, f, _, rfl, hl, hlen, hf⟩ := DataW.trod_struct Tryd.underlying110 h
  have hlen : xs.length = 3 := hlen
  obtain ⟨y0, hy0⟩ := nth hlen (i := 0) (by omega)
  obtain ⟨y1, hy1⟩ := nth hlen (i := 1) (by omega)
  obtain ⟨y2, hy2⟩ := nth hlen (i := 2) (by omega)
  have g0 : DataW.trod enc Tryd.prog W 0 (fun _ => true) true f 3 ((cs.drop 0).take (Tryd.prog.cellsOf 3)) = some y0 := (hf 0 _ rfl).trans hy0
  rw [co3] at g0
  have g1 : DataW.trod enc Tryd.prog W 0 (fun _ => true) true f 3 ((cs.drop 1).take (Tryd.prog.cellsOf 3)) = some y1 := (hf 1 _ rfl).trans hy1
  rw [co3] at g1
  have g2 : DataW.trod enc Tryd.prog W 0 (fun _ => true) true f 108 ((cs.drop 2).take (Tryd.prog.cellsOf 108)) = some y2 := (hf 2 _ rfl).trans hy2
  rw [cx40] at g2
  rw [cx57] at hl
  have hz2 : ∀ n ∈ y2.1.weights Tryd.prog 108, n ≤ reachBytes := fun n hn => hz n (by
    simp only [DataW.weights, Tryd.underlying110]
    exact DataW.weights_mem_each (j := 2) rfl (by simp [hy2]) n hn)
  obtain ⟨n, e0, _, _⟩ := DataW.trod_int Tryd.underlying3 g0
  obtain ⟨a, e1, _, _⟩ := DataW.trod_int Tryd.underlying3 g1
  obtain ⟨ao, l, c, e2, hr, hb⟩ := bytes_cells g2 hz2
  exact ⟨⟨n, a, ao, l.length, c⟩, l, list3 hl e0 e1 e2, hr, hb⟩
set_option maxRecDepth 100000 in
/-- Sheets that came in. -/
theorem sheets_cells (h : DataW.trod enc Tryd.prog W 0 (fun _ => true) true fuel 37 cs = some x) (hz : ∀ n ∈ x.1.weights Tryd.prog 37, n ≤ reachBytes) : ∃ ao l c ld, cs = [.slice ao l.length c] ∧ Shs W ao l ∧ ShD W l ld ∧ l.length * 40 ≤ 140737488351232 ∧ ∀ b ∈ ld, b.length ≤ 140737488351232 := by
  rcases open_slice Tryd.underlying37 h with ⟨hcs, hx⟩ | ⟨a, len, cap, m, n, D, Pl, hcs, _, hl, hm, hmm, hx, hel⟩
  · exact ⟨none, [], 0, [], hcs, fun i x hx => by simp at hx, ⟨rfl, fun i s l h => by simp at h⟩, by simp, by simp⟩
  · have hlm : len ≤ m := by rw [hmm]; split <;> omega
    have hxd : x.1 = .slice ((List.range len).map D) ((List.range (m - len)).map fun j => D (len + j)) := by rw [hx]
    have hle : ∀ i, i < len → ∀ k ∈ (D i).weights Tryd.prog 110, k ≤ reachBytes := fun i hi k hk => hz k (by
      rw [hxd]
      simp only [DataW.weights, Tryd.underlying37, List.mem_cons, List.mem_append]
      exact Or.inr (Or.inl (weights_mem_all (List.mem_map_of_mem (List.mem_range.2 hi)) k hk)))
    have each : ∀ i, i < len → ∃ q : Sh × List UInt8, (∀ j u, q.1.cells[j]? = some u → W.cell? (a.add (i * 3 + j)) = some u) ∧ ReadsW W (.slice q.1.da q.1.dl q.1.dp) q.2 ∧ q.2.length ≤ 140737488351232 := by
      intro i hi
      obtain ⟨cs', h1, h2⟩ := hel i (by omega)
      rw [cx57] at h1
      obtain ⟨_, hlen, hcell⟩ := World.cells?_some h1
      obtain ⟨s, l, rfl, hr, hb⟩ := sh_cells h2 (hle i hi)
      refine ⟨(s, l), fun j u hu => ?_, hr, hb⟩
      have hj : j < 3 := by
        have := (List.getElem?_eq_some_iff.1 hu).1
        rwa [s.len] at this
      have q := hcell j (by omega)
      rw [add_add] at q
      rw [q, ← hu]
    haveI : Inhabited (Sh × List UInt8) := ⟨(zS, [])⟩
    obtain ⟨f, hf'⟩ := choose_lt each
    have hw : len * 40 ≤ 140737488351232 := by
      have := hz ((len + (m - len)) * 40) (by
        rw [hxd]
        simp [DataW.weights, Tryd.underlying37, bo57])
      rw [reach_num] at this
      omega
    refine ⟨some a, (List.range len).map (fun i => (f i).1), cap, (List.range len).map (fun i => (f i).2), by simpa using hcs, fun i e he => ?_, ⟨by simp, fun i s l h1 h2 => ?_⟩, by simpa using hw, fun b hb => ?_⟩
    · have hi : i < len := by
        have := (List.getElem?_eq_some_iff.1 he).1
        simpa using this
      obtain rfl : (f i).1 = e := by
        rw [List.getElem?_map, List.getElem?_range hi] at he
        simpa using he
      have h00 := (hf' 0 (by omega)).1 0 _ rfl
      obtain ⟨hsp, hb⟩ := spot_of (by simpa using h00)
      obtain ⟨b, off, sp⟩ := a
      simp only at hsp
      subst hsp
      refine ⟨b, off, rfl, hb, fun j u hu => ?_⟩
      have := (hf' i hi).1 j u hu
      rw [Addr.add_lit] at this
      rw [Nat.add_assoc]
      exact this
    · have hi : i < len := by
        have := (List.getElem?_eq_some_iff.1 h1).1
        simpa using this
      rw [List.getElem?_map, List.getElem?_range hi] at h1 h2
      simp only [Option.map_some, Option.some.injEq] at h1 h2
      subst h1 h2
      exact (hf' i hi).2.1
    · obtain ⟨i, hi, rfl⟩ := List.mem_map.1 hb
      exact (hf' i (List.mem_range.1 hi)).2.2
set_option maxRecDepth 100000 in
theorem res_cells (h : DataW.trod enc Tryd.prog W 0 (fun _ => true) true fuel 35 cs = some x) (hz : ∀ n ∈ x.1.weights Tryd.prog 35, n ≤ reachBytes) : ∃ c n ao l cp, cs = [.int .i64 c, .int .i64 n, .slice ao l.length cp] ∧ Txts W (.slice ao l.length cp) l ∧ l.length * 16 ≤ 140737488351232 := by
  obtain ⟨xs, f, _, rfl, hl, hlen, hf⟩ := DataW.trod_struct Tryd.underlying35 h
  have hlen : xs.length = 3 := hlen
  obtain ⟨y0, hy0⟩ := nth hlen (i := 0) (by omega)
  obtain ⟨y1, hy1⟩ := nth hlen (i := 1) (by omega)
  obtain ⟨y2, hy2⟩ := nth hlen (i := 2) (by omega)
  have g0 : DataW.trod enc Tryd.prog W 0 (fun _ => true) true f 3 ((cs.drop 0).take (Tryd.prog.cellsOf 3)) = some y0 := (hf 0 _ rfl).trans hy0
  rw [co3] at g0
  have g1 : DataW.trod enc Tryd.prog W 0 (fun _ => true) true f 3 ((cs.drop 1).take (Tryd.prog.cellsOf 3)) = some y1 := (hf 1 _ rfl).trans hy1
  rw [co3] at g1
  have g2 : DataW.trod enc Tryd.prog W 0 (fun _ => true) true f 33 ((cs.drop 2).take (Tryd.prog.cellsOf 33)) = some y2 := (hf 2 _ rfl).trans hy2
  rw [cx26] at g2
  rw [cx28] at hl
  have hz2 : ∀ n ∈ y2.1.weights Tryd.prog 33, n ≤ reachBytes := fun n hn => hz n (by
    simp only [DataW.weights, Tryd.underlying35]
    exact DataW.weights_mem_each (j := 2) rfl (by simp [hy2]) n hn)
  obtain ⟨c, e0, _, _⟩ := DataW.trod_int Tryd.underlying3 g0
  obtain ⟨n, e1, _, _⟩ := DataW.trod_int Tryd.underlying3 g1
  obtain ⟨ao, l, cp, e2, ht, hb⟩ := texts_cells g2 hz2
  exact ⟨c, n, ao, l, cp, list3 hl e0 e1 e2, ht, hb⟩
set_option maxRecDepth 100000 in
theorem cargo_cells (h : DataW.trod enc Tryd.prog W 0 (fun _ => true) true fuel 39 cs = some x) (hz : ∀ n ∈ x.1.weights Tryd.prog 39, n ≤ reachBytes) : ∃ f b sa ls sp xa lx xp ld, cs = [.int .i64 f, .int .i64 b, .slice sa (List.length ls) sp, .slice xa (List.length lx) xp] ∧ Shs W sa ls ∧ ShD W ls ld ∧ Ents W xa lx ∧ ls.length * 40 ≤ 140737488351232 ∧ lx.length * 72 ≤ 140737488351232 ∧ ∀ l ∈ ld, l.length ≤ 140737488351232 := by
  obtain ⟨xs, f, _, rfl, hl, hlen, hf⟩ := DataW.trod_struct Tryd.underlying39 h
  have hlen : xs.length = 4 := hlen
  obtain ⟨y0, hy0⟩ := nth hlen (i := 0) (by omega)
  obtain ⟨y1, hy1⟩ := nth hlen (i := 1) (by omega)
  obtain ⟨y2, hy2⟩ := nth hlen (i := 2) (by omega)
  obtain ⟨y3, hy3⟩ := nth hlen (i := 3) (by omega)
  have g0 : DataW.trod enc Tryd.prog W 0 (fun _ => true) true f 3 ((cs.drop 0).take (Tryd.prog.cellsOf 3)) = some y0 := (hf 0 _ rfl).trans hy0
  rw [co3] at g0
  have g1 : DataW.trod enc Tryd.prog W 0 (fun _ => true) true f 3 ((cs.drop 1).take (Tryd.prog.cellsOf 3)) = some y1 := (hf 1 _ rfl).trans hy1
  rw [co3] at g1
  have g2 : DataW.trod enc Tryd.prog W 0 (fun _ => true) true f 37 ((cs.drop 2).take (Tryd.prog.cellsOf 37)) = some y2 := (hf 2 _ rfl).trans hy2
  rw [cx30] at g2
  have g3 : DataW.trod enc Tryd.prog W 0 (fun _ => true) true f 36 ((cs.drop 3).take (Tryd.prog.cellsOf 36)) = some y3 := (hf 3 _ rfl).trans hy3
  rw [cx29] at g3
  rw [cx32] at hl
  have hz2 : ∀ n ∈ y2.1.weights Tryd.prog 37, n ≤ reachBytes := fun n hn => hz n (by
    simp only [DataW.weights, Tryd.underlying39]
    exact DataW.weights_mem_each (j := 2) rfl (by simp [hy2]) n hn)
  have hz3 : ∀ n ∈ y3.1.weights Tryd.prog 36, n ≤ reachBytes := fun n hn => hz n (by
    simp only [DataW.weights, Tryd.underlying39]
    exact DataW.weights_mem_each (j := 3) rfl (by simp [hy3]) n hn)
  obtain ⟨c, e0, _, _⟩ := DataW.trod_int Tryd.underlying3 g0
  obtain ⟨n, e1, _, _⟩ := DataW.trod_int Tryd.underlying3 g1
  obtain ⟨sa, ls, sp, ld, e2, h1, h2, h3, h4⟩ := sheets_cells g2 hz2
  obtain ⟨xa, lx, xp, e3, h5, h6⟩ := ents_cells g3 hz3
  exact ⟨c, n, sa, ls, sp, xa, lx, xp, ld, list4 hl e0 e1 e2 e3, h1, h2, h5, h3, h6, h4⟩
/-- How great the lists of a message are. -/
structure Sz (li : List ByteArray) (le : List Ent) (ls : List Sh) (lx : List Ent) (ld : List (List UInt8)) : Prop where
  i : (li.length + 1) * 16 ≤ 140737488355328
  e : (le.length + 1) * 72 ≤ 140737488355328
  x : (lx.length + 1) * 72 ≤ 140737488355328
  s : (ls.length + 1) * 40 ≤ 140737488355328
  b : ∀ l ∈ ld, l.length ≤ 140737488355000
set_option maxRecDepth 100000 in
theorem msg_cells (h : DataW.trod enc Tryd.prog W 0 (fun _ => true) true fuel 41 cs = some x) (hz : ∀ n ∈ x.1.weights Tryd.prog 41, n ≤ reachBytes) : ∃ (m : Ms) (li : List ByteArray) (le : List Ent) (ls : List Sh) (lx : List Ent) (ld : List (List UInt8)), cs = m.cells ∧ Ml W m li le ls lx ∧ ShD W ls ld ∧ Sz li le ls lx ld := by
  obtain ⟨xs, f, _, rfl, hl, hlen, hf⟩ := DataW.trod_struct Tryd.underlying41 h
  have hlen : xs.length = 14 := hlen
  obtain ⟨y0, hy0⟩ := nth hlen (i := 0) (by omega)
  obtain ⟨y1, hy1⟩ := nth hlen (i := 1) (by omega)
  obtain ⟨y2, hy2⟩ := nth hlen (i := 2) (by omega)
  obtain ⟨y3, hy3⟩ := nth hlen (i := 3) (by omega)
  obtain ⟨y4, hy4⟩ := nth hlen (i := 4) (by omega)
  obtain ⟨y5, hy5⟩ := nth hlen (i := 5) (by omega)
  obtain ⟨y6, hy6⟩ := nth hlen (i := 6) (by omega)
  obtain ⟨y7, hy7⟩ := nth hlen (i := 7) (by omega)
  obtain ⟨y8, hy8⟩ := nth hlen (i := 8) (by omega)
  obtain ⟨y9, hy9⟩ := nth hlen (i := 9) (by omega)
  obtain ⟨y10, hy10⟩ := nth hlen (i := 10) (by omega)
  obtain ⟨y11, hy11⟩ := nth hlen (i := 11) (by omega)
  obtain ⟨y12, hy12⟩ := nth hlen (i := 12) (by omega)
  obtain ⟨y13, hy13⟩ := nth hlen (i := 13) (by omega)
  have g0 : DataW.trod enc Tryd.prog W 0 (fun _ => true) true f 3 ((cs.drop 0).take (Tryd.prog.cellsOf 3)) = some y0 := (hf 0 _ rfl).trans hy0
  rw [co3] at g0
  have g1 : DataW.trod enc Tryd.prog W 0 (fun _ => true) true f 3 ((cs.drop 1).take (Tryd.prog.cellsOf 3)) = some y1 := (hf 1 _ rfl).trans hy1
  rw [co3] at g1
  have g2 : DataW.trod enc Tryd.prog W 0 (fun _ => true) true f 3 ((cs.drop 2).take (Tryd.prog.cellsOf 3)) = some y2 := (hf 2 _ rfl).trans hy2
  rw [co3] at g2
  have g3 : DataW.trod enc Tryd.prog W 0 (fun _ => true) true f 3 ((cs.drop 3).take (Tryd.prog.cellsOf 3)) = some y3 := (hf 3 _ rfl).trans hy3
  rw [co3] at g3
  have g4 : DataW.trod enc Tryd.prog W 0 (fun _ => true) true f 3 ((cs.drop 4).take (Tryd.prog.cellsOf 3)) = some y4 := (hf 4 _ rfl).trans hy4
  rw [co3] at g4
  have g5 : DataW.trod enc Tryd.prog W 0 (fun _ => true) true f 3 ((cs.drop 5).take (Tryd.prog.cellsOf 3)) = some y5 := (hf 5 _ rfl).trans hy5
  rw [co3] at g5
  have g6 : DataW.trod enc Tryd.prog W 0 (fun _ => true) true f 3 ((cs.drop 6).take (Tryd.prog.cellsOf 3)) = some y6 := (hf 6 _ rfl).trans hy6
  rw [co3] at g6
  have g7 : DataW.trod enc Tryd.prog W 0 (fun _ => true) true f 3 ((cs.drop 7).take (Tryd.prog.cellsOf 3)) = some y7 := (hf 7 _ rfl).trans hy7
  rw [co3] at g7
  have g8 : DataW.trod enc Tryd.prog W 0 (fun _ => true) true f 3 ((cs.drop 8).take (Tryd.prog.cellsOf 3)) = some y8 := (hf 8 _ rfl).trans hy8
  rw [co3] at g8
  have g9 : DataW.trod enc Tryd.prog W 0 (fun _ => true) true f 4 ((cs.drop 9).take (Tryd.prog.cellsOf 4)) = some y9 := (hf 9 _ rfl).trans hy9
  rw [cx4] at g9
  have g10 : DataW.trod enc Tryd.prog W 0 (fun _ => true) true f 32 ((cs.drop 10).take (Tryd.prog.cellsOf 32)) = some y10 := (hf 10 _ rfl).trans hy10
  rw [cx25] at g10
  have g11 : DataW.trod enc Tryd.prog W 0 (fun _ => true) true f 35 ((cs.drop 15).take (Tryd.prog.cellsOf 35)) = some y11 := (hf 11 _ rfl).trans hy11
  rw [cx28] at g11
  have g12 : DataW.trod enc Tryd.prog W 0 (fun _ => true) true f 36 ((cs.drop 18).take (Tryd.prog.cellsOf 36)) = some y12 := (hf 12 _ rfl).trans hy12
  rw [cx29] at g12
  have g13 : DataW.trod enc Tryd.prog W 0 (fun _ => true) true f 39 ((cs.drop 19).take (Tryd.prog.cellsOf 39)) = some y13 := (hf 13 _ rfl).trans hy13
  rw [cx32] at g13
  rw [cx34] at hl
  have hz11 : ∀ n ∈ y11.1.weights Tryd.prog 35, n ≤ reachBytes := fun n hn => hz n (by
    simp only [DataW.weights, Tryd.underlying41]
    exact DataW.weights_mem_each (j := 11) rfl (by simp [hy11]) n hn)
  have hz12 : ∀ n ∈ y12.1.weights Tryd.prog 36, n ≤ reachBytes := fun n hn => hz n (by
    simp only [DataW.weights, Tryd.underlying41]
    exact DataW.weights_mem_each (j := 12) rfl (by simp [hy12]) n hn)
  have hz13 : ∀ n ∈ y13.1.weights Tryd.prog 39, n ≤ reachBytes := fun n hn => hz n (by
    simp only [DataW.weights, Tryd.underlying41]
    exact DataW.weights_mem_each (j := 13) rfl (by simp [hy13]) n hn)
  obtain ⟨mk, e0, _, _⟩ := DataW.trod_int Tryd.underlying3 g0
  obtain ⟨mf, e1, _, _⟩ := DataW.trod_int Tryd.underlying3 g1
  obtain ⟨mt, e2, _, _⟩ := DataW.trod_int Tryd.underlying3 g2
  obtain ⟨mv, e3, _, _⟩ := DataW.trod_int Tryd.underlying3 g3
  obtain ⟨mn, e4, _, _⟩ := DataW.trod_int Tryd.underlying3 g4
  obtain ⟨mc, e5, _, _⟩ := DataW.trod_int Tryd.underlying3 g5
  obtain ⟨mo, e6, _, _⟩ := DataW.trod_int Tryd.underlying3 g6
  obtain ⟨ml, e7, _, _⟩ := DataW.trod_int Tryd.underlying3 g7
  obtain ⟨mq, e8, _, _⟩ := DataW.trod_int Tryd.underlying3 g8
  obtain ⟨mh, e9, _⟩ := DataW.trod_bool Tryd.underlying4 g9
  obtain ⟨ok, nm, tx, on, om, e10⟩ := op_cells g10
  obtain ⟨rc, rn, ra, li, rp, e11, hr, br⟩ := res_cells g11 hz11
  obtain ⟨ea, le, ep, e12, he, be⟩ := ents_cells g12 hz12
  obtain ⟨cf, cb, sa, ls, sp, xa, lx, xp, ld, e13, hs, hd, hx, bs, bx, bd'⟩ := cargo_cells g13 hz13
  refine ⟨⟨mk, mf, mt, mv, mn, mc, mo, ml, mq, mh, ok, nm, tx, on, om, rc, rn, ra, li.length, rp, ea, le.length, ep, cf, cb, sa, ls.length, sp, xa, lx.length, xp⟩, li, le, ls, lx, ld, list23 hl e0 e1 e2 e3 e4 e5 e6 e7 e8 e9 e10 e11 e12 e13, ⟨hr, he, hs, hx, rfl, rfl, rfl, rfl, ?_, ?_, ?_, ?_⟩, hd, ⟨by omega, by omega, by omega, by omega, fun l hl => by have := bd' l hl; omega⟩⟩
  · show li.length ≤ _; omega
  · show le.length ≤ _; omega
  · show ls.length ≤ _; omega
  · show lx.length ≤ _; omega
end
end Go.Proofs.YteloaggebkbeeaaDoor

namespace Go.Proofs.YteloaggebkbeeaaDoor
open Go.ChangeShapes Go.WideShapes Go.ChangeAt Go.RowKit Go.Deep Go.Joins
set_option linter.unusedVariables false

theorem cx43 : Tryd.prog.cellsOf 43 = 39 := by kernel_rfl
theorem bx43 : Tryd.prog.bytesOf 43 = 424 := by kernel_rfl
theorem list39 {l p q r : List Value} {v0 v1 v2 v3 v4 v5 v6 v7 : Value} (hl : l.length = 39) (h0 : (l.drop 0).take 1 = [v0]) (h1 : (l.drop 1).take 1 = [v1]) (h2 : (l.drop 2).take 1 = [v2]) (h3 : (l.drop 3).take 1 = [v3]) (h4 : (l.drop 4).take 1 = [v4]) (h5 : (l.drop 5).take 1 = [v5]) (h6 : (l.drop 6).take 1 = [v6]) (h7 : (l.drop 7).take 1 = [v7]) (h8 : (l.drop 8).take 5 = p) (h9 : (l.drop 13).take 23 = q) (h10 : (l.drop 36).take 3 = r) : l = [v0, v1, v2, v3, v4, v5, v6, v7] ++ (p ++ (q ++ r)) := by
  have e1 : l = l.take 8 ++ ((l.drop 8).take 5 ++ ((l.drop 13).take 23 ++ (l.drop 36).take 3)) := by
    have a1 := (List.take_append_drop 8 l).symm
    have a2 := (List.take_append_drop 5 (l.drop 8)).symm
    have a3 := (List.take_append_drop 23 (l.drop 13)).symm
    rw [List.drop_drop] at a2 a3
    have a4 : (l.drop 36).take 3 = l.drop 36 := List.take_of_length_le (by rw [List.length_drop]; omega)
    rw [a4, ← a3, ← a2, ← a1]
  have key : ∀ {i : Nat} {v : Value}, i < 8 → (l.drop i).take 1 = [v] → ((l.take 8).drop i).take 1 = [v] := fun hi h => by
    rw [List.drop_take, List.take_take, Nat.min_eq_left (by omega)]
    exact h
  have e2 : l.take 8 = [v0, v1, v2, v3, v4, v5, v6, v7] := by
    have q0 := key (by omega) h0
    have q1 := key (by omega) h1
    have q2 := key (by omega) h2
    have q3 := key (by omega) h3
    have q4 := key (by omega) h4
    have q5 := key (by omega) h5
    have q6 := key (by omega) h6
    have q7 := key (by omega) h7
    have hl8 : (l.take 8).length = 8 := by rw [List.length_take]; omega
    clear key e1 h0 h1 h2 h3 h4 h5 h6 h7 h8 h9 h10
    generalize l.take 8 = l8 at *
    match l8, hl8 with
    | [z0, z1, z2, z3, z4, z5, z6, z7], _ => simp at q0 q1 q2 q3 q4 q5 q6 q7; simp [q0, q1, q2, q3, q4, q5, q6, q7]
  rw [h8, h9, h10, e2] at e1
  exact e1
/-- A step of a script. -/
structure So where
  k : Int
  on : Int
  to_ : Int
  who : Int
  off : Int
  fr : Int
  vw : Int
  nu : Int
  ok : Int
  onm : ByteArray
  otx : ByteArray
  onn : Int
  omm : Int
  m : Ms
  rc : Int
  rn : Int
  ra : Option Addr
  rl : Nat
  rp : Nat
def So.ints (s : So) : List Value := [.int .i64 s.k, .int .i64 s.on, .int .i64 s.to_, .int .i64 s.who, .int .i64 s.off, .int .i64 s.fr, .int .i64 s.vw, .int .i64 s.nu]
def So.opC (s : So) : List Value := [.int .i64 s.ok, .string s.onm, .string s.otx, .int .i64 s.onn, .int .i64 s.omm]
def So.cells (s : So) : List Value := s.ints ++ (s.opC ++ (s.m.cells ++ [.int .i64 s.rc, .int .i64 s.rn, .slice s.ra s.rl s.rp]))
theorem So.len (s : So) : s.cells.length = 39 := rfl
def i64R (n : Int) : Prop := -9223372036854775808 ≤ n ∧ n ≤ 9223372036854775807
/-- What holds of a step that came in. -/
structure SoOk (w : World) (s : So) : Prop where
  who : i64R s.who
  fr : i64R s.fr
  vw : i64R s.vw
  nu : i64R s.nu
  ml : ∃ li le ls lx, Ml w s.m li le ls lx ∧ (li.length + 1) * 16 ≤ 140737488355328
def zSo : So := ⟨0, 0, 0, 0, 0, 0, 0, 0, 0, ⟨#[]⟩, ⟨#[]⟩, 0, 0, ⟨0, 0, 0, 0, 0, 0, 0, 0, 0, false, 0, ⟨#[]⟩, ⟨#[]⟩, 0, 0, 0, 0, none, 0, 0, none, 0, 0, 0, 0, none, 0, 0, none, 0, 0⟩, 0, 0, none, 0, 0⟩
/-- A script, as it is read. -/
def SosAt (w : World) (v : Value) (l : List So) : Prop := ∃ ao c, v = .slice ao l.length c ∧ l.length ≤ c ∧ ∀ (i : Nat) (x : So), l[i]? = some x → SoOk w x ∧ ∃ g o, ao = some ⟨g, o, none⟩ ∧ g < w.heap.size ∧ w.rangeAt g (o + i * 39) x.cells
section
variable {H : Type} {enc : TypeId × Value → H} {W : World} {fuel : Nat} {cs : List Value} {x : DataW H × List MemPlace}
set_option maxRecDepth 100000 in
theorem so_cells (h : DataW.trod enc Tryd.prog W 0 (fun _ => true) true fuel 43 cs = some x) (hz : ∀ n ∈ x.1.weights Tryd.prog 43, n ≤ reachBytes) : ∃ s : So, cs = s.cells ∧ SoOk W s := by
  obtain ⟨xs, f, _, rfl, hl, hlen, hf⟩ := DataW.trod_struct Tryd.underlying43 h
  have hlen : xs.length = 11 := hlen
  obtain ⟨y0, hy0⟩ := nth hlen (i := 0) (by omega)
  obtain ⟨y1, hy1⟩ := nth hlen (i := 1) (by omega)
  obtain ⟨y2, hy2⟩ := nth hlen (i := 2) (by omega)
  obtain ⟨y3, hy3⟩ := nth hlen (i := 3) (by omega)
  obtain ⟨y4, hy4⟩ := nth hlen (i := 4) (by omega)
  obtain ⟨y5, hy5⟩ := nth hlen (i := 5) (by omega)
  obtain ⟨y6, hy6⟩ := nth hlen (i := 6) (by omega)
  obtain ⟨y7, hy7⟩ := nth hlen (i := 7) (by omega)
  obtain ⟨y8, hy8⟩ := nth hlen (i := 8) (by omega)
  obtain ⟨y9, hy9⟩ := nth hlen (i := 9) (by omega)
  obtain ⟨y10, hy10⟩ := nth hlen (i := 10) (by omega)
  have g0 : DataW.trod enc Tryd.prog W 0 (fun _ => true) true f 3 ((cs.drop 0).take (Tryd.prog.cellsOf 3)) = some y0 := (hf 0 _ rfl).trans hy0
  rw [co3] at g0
  have g1 : DataW.trod enc Tryd.prog W 0 (fun _ => true) true f 3 ((cs.drop 1).take (Tryd.prog.cellsOf 3)) = some y1 := (hf 1 _ rfl).trans hy1
  rw [co3] at g1
  have g2 : DataW.trod enc Tryd.prog W 0 (fun _ => true) true f 3 ((cs.drop 2).take (Tryd.prog.cellsOf 3)) = some y2 := (hf 2 _ rfl).trans hy2
  rw [co3] at g2
  have g3 : DataW.trod enc Tryd.prog W 0 (fun _ => true) true f 3 ((cs.drop 3).take (Tryd.prog.cellsOf 3)) = some y3 := (hf 3 _ rfl).trans hy3
  rw [co3] at g3
  have g4 : DataW.trod enc Tryd.prog W 0 (fun _ => true) true f 3 ((cs.drop 4).take (Tryd.prog.cellsOf 3)) = some y4 := (hf 4 _ rfl).trans hy4
  rw [co3] at g4
  have g5 : DataW.trod enc Tryd.prog W 0 (fun _ => true) true f 3 ((cs.drop 5).take (Tryd.prog.cellsOf 3)) = some y5 := (hf 5 _ rfl).trans hy5
  rw [co3] at g5
  have g6 : DataW.trod enc Tryd.prog W 0 (fun _ => true) true f 3 ((cs.drop 6).take (Tryd.prog.cellsOf 3)) = some y6 := (hf 6 _ rfl).trans hy6
  rw [co3] at g6
  have g7 : DataW.trod enc Tryd.prog W 0 (fun _ => true) true f 3 ((cs.drop 7).take (Tryd.prog.cellsOf 3)) = some y7 := (hf 7 _ rfl).trans hy7
  rw [co3] at g7
  have g8 : DataW.trod enc Tryd.prog W 0 (fun _ => true) true f 32 ((cs.drop 8).take (Tryd.prog.cellsOf 32)) = some y8 := (hf 8 _ rfl).trans hy8
  rw [co32] at g8
  have g9 : DataW.trod enc Tryd.prog W 0 (fun _ => true) true f 41 ((cs.drop 13).take (Tryd.prog.cellsOf 41)) = some y9 := (hf 9 _ rfl).trans hy9
  rw [cx34] at g9
  have g10 : DataW.trod enc Tryd.prog W 0 (fun _ => true) true f 35 ((cs.drop 36).take (Tryd.prog.cellsOf 35)) = some y10 := (hf 10 _ rfl).trans hy10
  rw [cx28] at g10
  rw [cx43] at hl
  have hz9 : ∀ n ∈ y9.1.weights Tryd.prog 41, n ≤ reachBytes := fun n hn => hz n (by
    simp only [DataW.weights, Tryd.underlying43]
    exact DataW.weights_mem_each (j := 9) rfl (by simp [hy9]) n hn)
  have hz10 : ∀ n ∈ y10.1.weights Tryd.prog 35, n ≤ reachBytes := fun n hn => hz n (by
    simp only [DataW.weights, Tryd.underlying43]
    exact DataW.weights_mem_each (j := 10) rfl (by simp [hy10]) n hn)
  obtain ⟨k0, e0, _, w0⟩ := DataW.trod_int Tryd.underlying3 g0
  obtain ⟨k1, e1, _, w1⟩ := DataW.trod_int Tryd.underlying3 g1
  obtain ⟨k2, e2, _, w2⟩ := DataW.trod_int Tryd.underlying3 g2
  obtain ⟨k3, e3, _, w3⟩ := DataW.trod_int Tryd.underlying3 g3
  obtain ⟨k4, e4, _, w4⟩ := DataW.trod_int Tryd.underlying3 g4
  obtain ⟨k5, e5, _, w5⟩ := DataW.trod_int Tryd.underlying3 g5
  obtain ⟨k6, e6, _, w6⟩ := DataW.trod_int Tryd.underlying3 g6
  obtain ⟨k7, e7, _, w7⟩ := DataW.trod_int Tryd.underlying3 g7
  obtain ⟨ok, nm, tx, on, om, e8⟩ := op_cells g8
  obtain ⟨m, li, le, ls, lx, ld, e9, hm, _, hsz⟩ := msg_cells g9 hz9
  obtain ⟨rc, rn, ra, rl, rp, e10, _, _⟩ := res_cells g10 hz10
  refine ⟨⟨k0, k1, k2, k3, k4, k5, k6, k7, ok, nm, tx, on, om, m, rc, rn, ra, rl.length, rp⟩, list39 hl e0 e1 e2 e3 e4 e5 e6 e7 e8 e9 e10, i64_wf w3, i64_wf w5, i64_wf w6, i64_wf w7, li, le, ls, lx, hm, ?_⟩
  exact hsz.i
set_option maxRecDepth 100000 in
theorem open_steps {v : Value} {d : DataW H} {p : List MemPlace} (h : DataW.Trod enc Tryd.prog W 0 (fun _ => true) true 24 v d p) (hv : ∃ a l c, v = .slice a l c) (hz : ∀ n ∈ d.weights Tryd.prog 24, n ≤ reachBytes) : ∃ l, SosAt W v l ∧ l.length * 424 ≤ 140737488351232 := by
  obtain ⟨fuel, hf0⟩ := h
  obtain ⟨a0, l0, c0, rfl⟩ := hv
  rcases open_slice Tryd.underlying24 hf0 with ⟨hcs, hx⟩ | ⟨a, len, cap, m, n, D, Pl, hcs, _, hl, hm, hmm, hx, hel⟩
  · have hv : Value.slice a0 l0 c0 = .slice none 0 0 := by simpa [Value.cells] using hcs
    exact ⟨[], ⟨none, 0, hv, by simp, fun i x hx => by simp at hx⟩, by simp⟩
  · have hv : Value.slice a0 l0 c0 = .slice (some a) len cap := by simpa [Value.cells] using hcs
    have hlm : len ≤ m := by rw [hmm]; split <;> omega
    have hxd : d = .slice ((List.range len).map D) ((List.range (m - len)).map fun j => D (len + j)) := congrArg Prod.fst hx
    have hle : ∀ i, i < len → ∀ k ∈ (D i).weights Tryd.prog 43, k ≤ reachBytes := fun i hi k hk => hz k (by
      rw [hxd]
      simp only [DataW.weights, Tryd.underlying24, List.mem_cons, List.mem_append]
      exact Or.inr (Or.inl (weights_mem_all (List.mem_map_of_mem (List.mem_range.2 hi)) k hk)))
    have each : ∀ i, i < len → ∃ s : So, SoOk W s ∧ ∀ j u, s.cells[j]? = some u → W.cell? (a.add (i * 39 + j)) = some u := by
      intro i hi
      obtain ⟨cs', h1, h2⟩ := hel i (by omega)
      rw [cx43] at h1
      obtain ⟨_, hlen, hcell⟩ := World.cells?_some h1
      obtain ⟨s, rfl, hs⟩ := so_cells h2 (hle i hi)
      refine ⟨s, hs, fun j u hu => ?_⟩
      have hj : j < 39 := by
        have := (List.getElem?_eq_some_iff.1 hu).1
        rwa [s.len] at this
      have q := hcell j (by omega)
      rw [add_add] at q
      rw [q, ← hu]
    haveI : Inhabited So := ⟨zSo⟩
    obtain ⟨f, hf'⟩ := choose_lt each
    have hw : len * 424 ≤ 140737488351232 := by
      have := hz ((len + (m - len)) * 424) (by
        rw [hxd]
        simp [DataW.weights, Tryd.underlying24, bx43])
      rw [reach_num] at this
      omega
    refine ⟨(List.range len).map f, ⟨some a, cap, by simpa using hv, by simpa using hl, fun i s he => ?_⟩, by simpa using hw⟩
    have hi : i < len := by
      have := (List.getElem?_eq_some_iff.1 he).1
      simpa using this
    obtain rfl : f i = s := by
      rw [List.getElem?_map, List.getElem?_range hi] at he
      simpa using he
    have h00 := (hf' 0 (by omega)).2 0 _ rfl
    obtain ⟨hsp, hb⟩ := spot_of (by simpa using h00)
    obtain ⟨b, off, sp⟩ := a
    simp only at hsp
    subst hsp
    refine ⟨(hf' i hi).1, b, off, rfl, hb, fun j u hu => ?_⟩
    have := (hf' i hi).2 j u hu
    rw [Addr.add_lit] at this
    rw [Nat.add_assoc]
    exact this
end
theorem SosAt.later {w w' : World} {v : Value} {l : List So} (h : SosAt w v l) (hb : Below w.heap.size w w') : SosAt w' v l := by
  obtain ⟨ao, c, e, hc, hx⟩ := h
  refine ⟨ao, c, e, hc, fun i x hi => ?_⟩
  obtain ⟨ho, g, o, e2, hg, hr⟩ := hx i x hi
  obtain ⟨li, le, ls, lx, hm, hl⟩ := ho.ml
  exact ⟨⟨ho.who, ho.fr, ho.vw, ho.nu, li, le, ls, lx, hm.later hb, hl⟩, g, o, e2, Nat.lt_of_lt_of_le hg hb.size, fun j u hu => cell_under hb hg (hr j u hu)⟩
end Go.Proofs.YteloaggebkbeeaaDoor
