import Derived.Test.YthoppemjfdnibaaGreatDoorMail42
import Derived.Test.YthoppemjfdnibaaGreatDoorLaid
import Derived.Deep.Strs
namespace Go.Proofs.YthoppemjfdnibaaGreatDoor
open Go.ChangeShapes Go.WideShapes Go.ChangeAt Go.RowKit Go.Deep Go.Joins
set_option linter.unusedVariables false

theorem co3 : Tryz.prog.cellsOf 3 = 1 := by kernel_rfl
theorem co4 : Tryz.prog.cellsOf 4 = 1 := by kernel_rfl
theorem co9 : Tryz.prog.cellsOf 9 = 1 := by kernel_rfl
theorem co25 : Tryz.prog.cellsOf 25 = 5 := by kernel_rfl
theorem co26 : Tryz.prog.cellsOf 26 = 1 := by kernel_rfl
theorem co28 : Tryz.prog.cellsOf 28 = 3 := by kernel_rfl
theorem co29 : Tryz.prog.cellsOf 29 = 1 := by kernel_rfl
theorem co30 : Tryz.prog.cellsOf 30 = 1 := by kernel_rfl
theorem co32 : Tryz.prog.cellsOf 32 = 4 := by kernel_rfl
theorem co34 : Tryz.prog.cellsOf 34 = 23 := by kernel_rfl
theorem co40 : Tryz.prog.cellsOf 40 = 1 := by kernel_rfl
theorem co55 : Tryz.prog.cellsOf 55 = 7 := by kernel_rfl
theorem co57 : Tryz.prog.cellsOf 57 = 3 := by kernel_rfl
theorem co5 : Tryz.prog.cellsOf 5 = 1 := by kernel_rfl
theorem bo55 : Tryz.prog.bytesOf 55 = 72 := by kernel_rfl
theorem bo57 : Tryz.prog.bytesOf 57 = 40 := by kernel_rfl
theorem bo9 : Tryz.prog.bytesOf 9 = 16 := by kernel_rfl
theorem bo5 : Tryz.prog.bytesOf 5 = 1 := by kernel_rfl
theorem i64_wf {n : Int} (h : (Lit.int .i64 n).wf = true) : -9223372036854775808 ≤ n ∧ n ≤ 9223372036854775807 := by
  simpa [Lit.wf, IntKind.min, IntKind.max, IntKind.signed, IntKind.bits] using h
theorem u8_wf {n : Int} (h : (Lit.int .u8 n).wf = true) : 0 ≤ n ∧ n < 256 := by
  have : 0 ≤ n ∧ n ≤ 255 := by simpa [Lit.wf, IntKind.min, IntKind.max, IntKind.signed, IntKind.bits] using h
  omega
theorem nth {α : Type} {l : List α} {n i : Nat} (hl : l.length = n) (hi : i < n) : ∃ y, l[i]? = some y := ⟨_, List.getElem?_eq_getElem (by omega)⟩
theorem choose_lt {α : Type} [Inhabited α] {n : Nat} {P : Nat → α → Prop} (h : ∀ i, i < n → ∃ x, P i x) : ∃ f : Nat → α, ∀ i, i < n → P i (f i) := by
  classical
  refine ⟨fun i => if hi : i < n then Classical.choose (h i hi) else default, fun i hi => ?_⟩
  simp only [hi, dif_pos]
  exact Classical.choose_spec (h i hi)
theorem spot_of {a : Addr} {W : World} {u : Value} (h : W.cell? (a.add 0) = some u) : a.spot = none ∧ a.block < W.heap.size := by
  have h1 := World.cell?_spot h
  have h2 := World.block_lt_of_cell? W _ h
  exact ⟨by simpa [Addr.add] using h1, by simpa [Addr.add] using h2⟩
theorem reach_num : reachBytes = 140737488351232 := by decide
theorem weights_mem_all {H : Type} {P : Program} {e : TypeId} : ∀ {ds : List (DataW H)} {d : DataW H}, d ∈ ds → ∀ n ∈ d.weights P e, n ∈ DataW.weightsAll P e ds
  | x :: ds, d, hd, n, hn => by
    simp only [DataW.weightsAll, List.mem_append]
    rcases List.mem_cons.1 hd with rfl | hd
    · exact Or.inl hn
    · exact Or.inr (weights_mem_all hd n hn)
  | [], _, hd, _, _ => by cases hd
theorem list5 {l : List Value} {a b c d e : Value} (hl : l.length = 5) (h0 : (l.drop 0).take 1 = [a]) (h1 : (l.drop 1).take 1 = [b]) (h2 : (l.drop 2).take 1 = [c]) (h3 : (l.drop 3).take 1 = [d]) (h4 : (l.drop 4).take 1 = [e]) : l = [a, b, c, d, e] := by
  match l, hl with
  | [x0, x1, x2, x3, x4], _ => simp at h0 h1 h2 h3 h4; simp [h0, h1, h2, h3, h4]
theorem list7 {l : List Value} {a b c d e f g : Value} (hl : l.length = 7) (h0 : (l.drop 0).take 1 = [a]) (h1 : (l.drop 1).take 1 = [b]) (h2 : (l.drop 2).take 5 = [c, d, e, f, g]) : l = [a, b, c, d, e, f, g] := by
  match l, hl with
  | [x0, x1, x2, x3, x4, x5, x6], _ => simp at h0 h1 h2; simp [h0, h1, h2]
theorem list3 {l : List Value} {a b c : Value} (hl : l.length = 3) (h0 : (l.drop 0).take 1 = [a]) (h1 : (l.drop 1).take 1 = [b]) (h2 : (l.drop 2).take 1 = [c]) : l = [a, b, c] := by
  match l, hl with
  | [x0, x1, x2], _ => simp at h0 h1 h2; simp [h0, h1, h2]
theorem list4 {l : List Value} {a b c d : Value} (hl : l.length = 4) (h0 : (l.drop 0).take 1 = [a]) (h1 : (l.drop 1).take 1 = [b]) (h2 : (l.drop 2).take 1 = [c]) (h3 : (l.drop 3).take 1 = [d]) : l = [a, b, c, d] := by
  match l, hl with
  | [x0, x1, x2, x3], _ => simp at h0 h1 h2 h3; simp [h0, h1, h2, h3]
theorem list23 {l : List Value} {v0 v1 v2 v3 v4 v5 v6 v7 v8 v9 v10 v11 v12 v13 v14 v15 v16 v17 v18 v19 v20 v21 v22 : Value} (hl : l.length = 23) (h0 : (l.drop 0).take 1 = [v0]) (h1 : (l.drop 1).take 1 = [v1]) (h2 : (l.drop 2).take 1 = [v2]) (h3 : (l.drop 3).take 1 = [v3]) (h4 : (l.drop 4).take 1 = [v4]) (h5 : (l.drop 5).take 1 = [v5]) (h6 : (l.drop 6).take 1 = [v6]) (h7 : (l.drop 7).take 1 = [v7]) (h8 : (l.drop 8).take 1 = [v8]) (h9 : (l.drop 9).take 1 = [v9]) (h10 : (l.drop 10).take 5 = [v10, v11, v12, v13, v14]) (h15 : (l.drop 15).take 3 = [v15, v16, v17]) (h18 : (l.drop 18).take 1 = [v18]) (h19 : (l.drop 19).take 4 = [v19, v20, v21, v22]) : l = [v0, v1, v2, v3, v4, v5, v6, v7, v8, v9, v10, v11, v12, v13, v14, v15, v16, v17, v18, v19, v20, v21, v22] := by
  match l, hl with
  | [x0, x1, x2, x3, x4, x5, x6, x7, x8, x9, x10, x11, x12, x13, x14, x15, x16, x17, x18, x19, x20, x21, x22], _ => simp at h0 h1 h2 h3 h4 h5 h6 h7 h8 h9 h10 h15 h18 h19; simp [h0, h1, h2, h3, h4, h5, h6, h7, h8, h9, h10, h15, h18, h19]
section
variable {H : Type} {enc : TypeId × Value → H} {W : World} {fuel : Nat} {cs : List Value} {x : DataW H × List MemPlace}
set_option maxRecDepth 100000 in
theorem op_cells (h : DataW.trod enc Tryz.prog W 0 (fun _ => true) true fuel 25 cs = some x) : ∃ k nm tx m q, cs = [.int .i64 k, .string nm, .string tx, .int .i64 m, .int .i64 q] := by
  obtain ⟨xs, f, _, rfl, hl, hlen, hf⟩ := DataW.trod_struct Tryz.underlying25 h
  have hlen : xs.length = 5 := hlen
  obtain ⟨y0, hy0⟩ := nth hlen (i := 0) (by omega)
  obtain ⟨y1, hy1⟩ := nth hlen (i := 1) (by omega)
  obtain ⟨y2, hy2⟩ := nth hlen (i := 2) (by omega)
  obtain ⟨y3, hy3⟩ := nth hlen (i := 3) (by omega)
  obtain ⟨y4, hy4⟩ := nth hlen (i := 4) (by omega)
  have g0 : DataW.trod enc Tryz.prog W 0 (fun _ => true) true f 3 ((cs.drop 0).take (Tryz.prog.cellsOf 3)) = some y0 := (hf 0 _ rfl).trans hy0
  rw [co3] at g0
  have g1 : DataW.trod enc Tryz.prog W 0 (fun _ => true) true f 9 ((cs.drop 1).take (Tryz.prog.cellsOf 9)) = some y1 := (hf 1 _ rfl).trans hy1
  rw [co9] at g1
  have g2 : DataW.trod enc Tryz.prog W 0 (fun _ => true) true f 9 ((cs.drop 2).take (Tryz.prog.cellsOf 9)) = some y2 := (hf 2 _ rfl).trans hy2
  rw [co9] at g2
  have g3 : DataW.trod enc Tryz.prog W 0 (fun _ => true) true f 3 ((cs.drop 3).take (Tryz.prog.cellsOf 3)) = some y3 := (hf 3 _ rfl).trans hy3
  rw [co3] at g3
  have g4 : DataW.trod enc Tryz.prog W 0 (fun _ => true) true f 3 ((cs.drop 4).take (Tryz.prog.cellsOf 3)) = some y4 := (hf 4 _ rfl).trans hy4
  rw [co3] at g4
  rw [co25] at hl
  obtain ⟨k, e0, _, _⟩ := DataW.trod_int Tryz.underlying3 g0
  obtain ⟨nm, e1, _, _⟩ := DataW.trod_string Tryz.underlying9 g1
  obtain ⟨tx, e2, _, _⟩ := DataW.trod_string Tryz.underlying9 g2
  obtain ⟨m, e3, _, _⟩ := DataW.trod_int Tryz.underlying3 g3
  obtain ⟨q, e4, _, _⟩ := DataW.trod_int Tryz.underlying3 g4
  exact ⟨k, nm, tx, m, q, list5 hl e0 e1 e2 e3 e4⟩
set_option maxRecDepth 100000 in
theorem ent_cells (h : DataW.trod enc Tryz.prog W 0 (fun _ => true) true fuel 55 cs = some x) : ∃ e : Ent, cs = e.cells := by
  obtain ⟨xs, f, _, rfl, hl, hlen, hf⟩ := DataW.trod_struct Tryz.underlying55 h
  have hlen : xs.length = 3 := hlen
  obtain ⟨y0, hy0⟩ := nth hlen (i := 0) (by omega)
  obtain ⟨y1, hy1⟩ := nth hlen (i := 1) (by omega)
  obtain ⟨y2, hy2⟩ := nth hlen (i := 2) (by omega)
  have g0 : DataW.trod enc Tryz.prog W 0 (fun _ => true) true f 3 ((cs.drop 0).take (Tryz.prog.cellsOf 3)) = some y0 := (hf 0 _ rfl).trans hy0
  rw [co3] at g0
  have g1 : DataW.trod enc Tryz.prog W 0 (fun _ => true) true f 3 ((cs.drop 1).take (Tryz.prog.cellsOf 3)) = some y1 := (hf 1 _ rfl).trans hy1
  rw [co3] at g1
  have g2 : DataW.trod enc Tryz.prog W 0 (fun _ => true) true f 25 ((cs.drop 2).take (Tryz.prog.cellsOf 25)) = some y2 := (hf 2 _ rfl).trans hy2
  rw [co25] at g2
  rw [co55] at hl
  obtain ⟨c, e0, _, _⟩ := DataW.trod_int Tryz.underlying3 g0
  obtain ⟨n, e1, _, _⟩ := DataW.trod_int Tryz.underlying3 g1
  obtain ⟨k, nm, tx, m, q, e2⟩ := op_cells g2
  exact ⟨⟨c, n, k, nm, tx, m, q⟩, list7 hl e0 e1 e2⟩
set_option maxRecDepth 100000 in
/-- Entries that came in. -/
theorem ents_cells (h : DataW.trod enc Tryz.prog W 0 (fun _ => true) true fuel 29 cs = some x) (hz : ∀ n ∈ x.1.weights Tryz.prog 29, n ≤ reachBytes) : ∃ ao l c, cs = [.slice ao l.length c] ∧ Ents W ao l ∧ l.length * 72 ≤ 140737488351232 := by
  rcases open_slice Tryz.underlying29 h with ⟨hcs, hx⟩ | ⟨a, len, cap, m, n, D, Pl, hcs, _, hl, hm, hmm, hx, hel⟩
  · exact ⟨none, [], 0, hcs, fun i x hx => by simp at hx, by simp⟩
  · have hlm : len ≤ m := by rw [hmm]; split <;> omega
    have each : ∀ i, i < len → ∃ e : Ent, ∀ j u, e.cells[j]? = some u → W.cell? (a.add (i * 7 + j)) = some u := by
      intro i hi
      obtain ⟨cs', h1, h2⟩ := hel i (by omega)
      rw [co55] at h1
      obtain ⟨_, hlen, hcell⟩ := World.cells?_some h1
      obtain ⟨e, rfl⟩ := ent_cells h2
      refine ⟨e, fun j u hu => ?_⟩
      have hj : j < 7 := by
        have := (List.getElem?_eq_some_iff.1 hu).1
        rwa [e.len] at this
      have q := hcell j (by omega)
      rw [add_add] at q
      rw [q, ← hu]
    haveI : Inhabited Ent := ⟨zE⟩
    obtain ⟨f, hf'⟩ := choose_lt each
    have hw : len * 72 ≤ 140737488351232 := by
      have := hz ((len + (m - len)) * 72) (by
        rw [hx]
        simp [DataW.weights, Tryz.underlying29, bo55])
      rw [reach_num] at this
      omega
    refine ⟨some a, (List.range len).map f, cap, by simpa using hcs, fun i e he => ?_, by simpa using hw⟩
    have hi : i < len := by
      have := (List.getElem?_eq_some_iff.1 he).1
      simpa using this
    obtain rfl : f i = e := by
      rw [List.getElem?_map, List.getElem?_range hi] at he
      simpa using he
    have h00 := hf' 0 (by omega) 0 _ rfl
    obtain ⟨hsp, hb⟩ := spot_of (by simpa using h00)
    obtain ⟨b, off, sp⟩ := a
    simp only at hsp
    subst hsp
    refine ⟨b, off, rfl, hb, fun j u hu => ?_⟩
    have := hf' i hi j u hu
    rw [Addr.add_lit] at this
    rw [Nat.add_assoc]
    exact this
/-- Texts that came in. -/
theorem texts_cells (h : DataW.trod enc Tryz.prog W 0 (fun _ => true) true fuel 26 cs = some x) (hz : ∀ n ∈ x.1.weights Tryz.prog 26, n ≤ reachBytes) : ∃ ao l c, cs = [.slice ao l.length c] ∧ Txts W (.slice ao l.length c) l ∧ l.length * 16 ≤ 140737488351232 := by
  rcases open_strs Tryz.underlying26 Tryz.underlying9 co9 h with ⟨rfl, _⟩ | ⟨a, len, cap, m, Sx, rfl, _, hl, hm, hmm, hx, hc⟩
  · exact ⟨none, [], 0, rfl, ⟨none, 0, rfl, by simp, Or.inl rfl⟩, by simp⟩
  · have hlm : len ≤ m := by rw [hmm]; split <;> omega
    have hw : len * 16 ≤ 140737488351232 := by
      have := hz ((len + (m - len)) * 16) (by
        rw [hx]
        simp [DataW.weights, Tryz.underlying26, bo9])
      rw [reach_num] at this
      omega
    refine ⟨some a, (List.range len).map Sx, cap, by simp, ⟨some a, cap, by simp, by simpa using hl, ?_⟩, by simpa using hw⟩
    by_cases h0 : len = 0
    · left; subst h0; rfl
    · right
      have hc0 := (hc 0 (by omega)).1
      obtain ⟨hsp, hb⟩ := spot_of hc0
      obtain ⟨b, off, sp'⟩ := a
      simp only at hsp
      subst hsp
      refine ⟨b, off, rfl, hb, fun j hj => ?_⟩
      have hj' : j < len := by simpa using hj
      have h1 := (hc j (by omega)).1
      rw [Addr.add_lit] at h1
      rw [h1]
      simp
/-- Bytes that came in. -/
theorem bytes_cells (h : DataW.trod enc Tryz.prog W 0 (fun _ => true) true fuel 40 cs = some x) (hz : ∀ n ∈ x.1.weights Tryz.prog 40, n ≤ reachBytes) : ∃ ao l c, cs = [.slice ao l.length c] ∧ ReadsW W (.slice ao l.length c) l ∧ l.length ≤ 140737488351232 := by
  rcases open_ints Tryz.underlying40 Tryz.underlying5 co5 h with ⟨rfl, _⟩ | ⟨a, len, cap, zs, rfl, _, hl, hm, hzl, hx, hcell, hwz⟩
  · exact ⟨none, [], 0, rfl, Or.inl ⟨none, 0, rfl, Nat.le_refl _, Or.inl ⟨rfl, rfl, rfl⟩⟩, by simp⟩
  · simp only [if_true] at hzl
    have hw : len ≤ 140737488351232 := by
      have := hz ((len + (zs.length - len)) * 1) (by
        rw [hx]
        simp [DataW.weights, Tryz.underlying40, bo5, lits, Nat.min_eq_left (show len ≤ zs.length by omega)])
      rw [reach_num] at this
      omega
    have hlz : ((zs.take len).map fun z => UInt8.ofNat z.toNat).length = len := by simp; omega
    refine ⟨some a, (zs.take len).map fun z => UInt8.ofNat z.toNat, cap, by rw [hlz], ?_, by rw [hlz]; exact hw⟩
    by_cases h0 : len = 0
    · subst h0
      exact Or.inr ⟨by simp, a, cap, by simp⟩
    · left
      have hc0 := hcell 0 (by omega)
      obtain ⟨hsp, hb⟩ := spot_of hc0
      obtain ⟨b, off, sp⟩ := a
      simp only at hsp
      subst hsp
      refine ⟨_, cap, by rw [hlz], by rw [hlz]; exact hl, Or.inr ⟨b, off, rfl, hb, fun j u hu => ?_⟩⟩
      have hj : j < len := by
        have := (List.getElem?_eq_some_iff.1 hu).1
        rw [cellsB_length, hlz] at this
        exact this
      have hjz : j < zs.length := by omega
      have hc := hcell j hjz
      rw [Addr.add_lit] at hc
      rw [hc, ← hu]
      have hw2 := u8_wf (hwz zs[j] (List.getElem_mem hjz))
      have e : ((UInt8.ofNat zs[j].toNat).toNat : Int) = zs[j] := by
        rw [UInt8.toNat_ofNat']
        omega
      simp only [cellsB, List.getElem?_map, List.getElem?_take, hj, if_true, List.getElem?_eq_getElem hjz, Option.map_some, List.getD, Option.getD_some, e]
set_option maxRecDepth 100000 in
theorem sh_cells (h : DataW.trod enc Tryz.prog W 0 (fun _ => true) true fuel 57 cs = some x) (hz : ∀ n ∈ x.1.weights Tryz.prog 57, n ≤ reachBytes) : ∃ (s : Sh) (l : List UInt8), cs = s.cells ∧ ReadsW W (.slice s.da s.dl s.dp) l ∧ l.length ≤ 140737488351232 := by
  obtain ⟨xs, f, _, rfl, hl, hlen, hf⟩ := DataW.trod_struct Tryz.underlying57 h
  have hlen : xs.length = 3 := hlen
  obtain ⟨y0, hy0⟩ := nth hlen (i := 0) (by omega)
  obtain ⟨y1, hy1⟩ := nth hlen (i := 1) (by omega)
  obtain ⟨y2, hy2⟩ := nth hlen (i := 2) (by omega)
  have g0 : DataW.trod enc Tryz.prog W 0 (fun _ => true) true f 3 ((cs.drop 0).take (Tryz.prog.cellsOf 3)) = some y0 := (hf 0 _ rfl).trans hy0
  rw [co3] at g0
  have g1 : DataW.trod enc Tryz.prog W 0 (fun _ => true) true f 3 ((cs.drop 1).take (Tryz.prog.cellsOf 3)) = some y1 := (hf 1 _ rfl).trans hy1
  rw [co3] at g1
  have g2 : DataW.trod enc Tryz.prog W 0 (fun _ => true) true f 40 ((cs.drop 2).take (Tryz.prog.cellsOf 40)) = some y2 := (hf 2 _ rfl).trans hy2
  rw [co40] at g2
  rw [co57] at hl
  have hz2 : ∀ n ∈ y2.1.weights Tryz.prog 40, n ≤ reachBytes := fun n hn => hz n (by
    simp only [DataW.weights, Tryz.underlying57]
    exact DataW.weights_mem_each (j := 2) rfl (by simp [hy2]) n hn)
  obtain ⟨n, e0, _, _⟩ := DataW.trod_int Tryz.underlying3 g0
  obtain ⟨a, e1, _, _⟩ := DataW.trod_int Tryz.underlying3 g1
  obtain ⟨ao, l, c, e2, hr, hb⟩ := bytes_cells g2 hz2
  exact ⟨⟨n, a, ao, l.length, c⟩, l, list3 hl e0 e1 e2, hr, hb⟩
set_option maxRecDepth 100000 in
/-- Sheets that came in. -/
theorem sheets_cells (h : DataW.trod enc Tryz.prog W 0 (fun _ => true) true fuel 30 cs = some x) (hz : ∀ n ∈ x.1.weights Tryz.prog 30, n ≤ reachBytes) : ∃ ao l c ld, cs = [.slice ao l.length c] ∧ Shs W ao l ∧ ShD W l ld ∧ l.length * 40 ≤ 140737488351232 ∧ ∀ b ∈ ld, b.length ≤ 140737488351232 := by
  rcases open_slice Tryz.underlying30 h with ⟨hcs, hx⟩ | ⟨a, len, cap, m, n, D, Pl, hcs, _, hl, hm, hmm, hx, hel⟩
  · exact ⟨none, [], 0, [], hcs, fun i x hx => by simp at hx, ⟨rfl, fun i s l h => by simp at h⟩, by simp, by simp⟩
  · have hlm : len ≤ m := by rw [hmm]; split <;> omega
    have hxd : x.1 = .slice ((List.range len).map D) ((List.range (m - len)).map fun j => D (len + j)) := by rw [hx]
    have hle : ∀ i, i < len → ∀ k ∈ (D i).weights Tryz.prog 57, k ≤ reachBytes := fun i hi k hk => hz k (by
      rw [hxd]
      simp only [DataW.weights, Tryz.underlying30, List.mem_cons, List.mem_append]
      exact Or.inr (Or.inl (weights_mem_all (List.mem_map_of_mem (List.mem_range.2 hi)) k hk)))
    have each : ∀ i, i < len → ∃ q : Sh × List UInt8, (∀ j u, q.1.cells[j]? = some u → W.cell? (a.add (i * 3 + j)) = some u) ∧ ReadsW W (.slice q.1.da q.1.dl q.1.dp) q.2 ∧ q.2.length ≤ 140737488351232 := by
      intro i hi
      obtain ⟨cs', h1, h2⟩ := hel i (by omega)
      rw [co57] at h1
      obtain ⟨_, hlen, hcell⟩ := World.cells?_some h1
      obtain ⟨s, l, rfl, hr, hb⟩ := sh_cells h2 (hle i hi)
      refine ⟨(s, l), fun j u hu => ?_, hr, hb⟩
      have hj : j < 3 := by
        have := (List.getElem?_eq_some_iff.1 hu).1
        rwa [s.len] at this
      have q := hcell j (by omega)
      rw [add_add] at q
      rw [q, ← hu]
    haveI : Inhabited (Sh × List UInt8) := ⟨(zS, [])⟩
    obtain ⟨f, hf'⟩ := choose_lt each
    have hw : len * 40 ≤ 140737488351232 := by
      have := hz ((len + (m - len)) * 40) (by
        rw [hxd]
        simp [DataW.weights, Tryz.underlying30, bo57])
      rw [reach_num] at this
      omega
    refine ⟨some a, (List.range len).map (fun i => (f i).1), cap, (List.range len).map (fun i => (f i).2), by simpa using hcs, fun i e he => ?_, ⟨by simp, fun i s l h1 h2 => ?_⟩, by simpa using hw, fun b hb => ?_⟩
    · have hi : i < len := by
        have := (List.getElem?_eq_some_iff.1 he).1
        simpa using this
      obtain rfl : (f i).1 = e := by
        rw [List.getElem?_map, List.getElem?_range hi] at he
        simpa using he
      have h00 := (hf' 0 (by omega)).1 0 _ rfl
      obtain ⟨hsp, hb⟩ := spot_of (by simpa using h00)
      obtain ⟨b, off, sp⟩ := a
      simp only at hsp
      subst hsp
      refine ⟨b, off, rfl, hb, fun j u hu => ?_⟩
      have := (hf' i hi).1 j u hu
      rw [Addr.add_lit] at this
      rw [Nat.add_assoc]
      exact this
    · have hi : i < len := by
        have := (List.getElem?_eq_some_iff.1 h1).1
        simpa using this
      rw [List.getElem?_map, List.getElem?_range hi] at h1 h2
      simp only [Option.map_some, Option.some.injEq] at h1 h2
      subst h1 h2
      exact (hf' i hi).2.1
    · obtain ⟨i, hi, rfl⟩ := List.mem_map.1 hb
      exact (hf' i (List.mem_range.1 hi)).2.2
set_option maxRecDepth 100000 in
theorem res_cells (h : DataW.trod enc Tryz.prog W 0 (fun _ => true) true fuel 28 cs = some x) (hz : ∀ n ∈ x.1.weights Tryz.prog 28, n ≤ reachBytes) : ∃ c n ao l cp, cs = [.int .i64 c, .int .i64 n, .slice ao l.length cp] ∧ Txts W (.slice ao l.length cp) l ∧ l.length * 16 ≤ 140737488351232 := by
  obtain ⟨xs, f, _, rfl, hl, hlen, hf⟩ := DataW.trod_struct Tryz.underlying28 h
  have hlen : xs.length = 3 := hlen
  obtain ⟨y0, hy0⟩ := nth hlen (i := 0) (by omega)
  obtain ⟨y1, hy1⟩ := nth hlen (i := 1) (by omega)
  obtain ⟨y2, hy2⟩ := nth hlen (i := 2) (by omega)
  have g0 : DataW.trod enc Tryz.prog W 0 (fun _ => true) true f 3 ((cs.drop 0).take (Tryz.prog.cellsOf 3)) = some y0 := (hf 0 _ rfl).trans hy0
  rw [co3] at g0
  have g1 : DataW.trod enc Tryz.prog W 0 (fun _ => true) true f 3 ((cs.drop 1).take (Tryz.prog.cellsOf 3)) = some y1 := (hf 1 _ rfl).trans hy1
  rw [co3] at g1
  have g2 : DataW.trod enc Tryz.prog W 0 (fun _ => true) true f 26 ((cs.drop 2).take (Tryz.prog.cellsOf 26)) = some y2 := (hf 2 _ rfl).trans hy2
  rw [co26] at g2
  rw [co28] at hl
  have hz2 : ∀ n ∈ y2.1.weights Tryz.prog 26, n ≤ reachBytes := fun n hn => hz n (by
    simp only [DataW.weights, Tryz.underlying28]
    exact DataW.weights_mem_each (j := 2) rfl (by simp [hy2]) n hn)
  obtain ⟨c, e0, _, _⟩ := DataW.trod_int Tryz.underlying3 g0
  obtain ⟨n, e1, _, _⟩ := DataW.trod_int Tryz.underlying3 g1
  obtain ⟨ao, l, cp, e2, ht, hb⟩ := texts_cells g2 hz2
  exact ⟨c, n, ao, l, cp, list3 hl e0 e1 e2, ht, hb⟩
set_option maxRecDepth 100000 in
theorem cargo_cells (h : DataW.trod enc Tryz.prog W 0 (fun _ => true) true fuel 32 cs = some x) (hz : ∀ n ∈ x.1.weights Tryz.prog 32, n ≤ reachBytes) : ∃ f b sa ls sp xa lx xp ld, cs = [.int .i64 f, .int .i64 b, .slice sa (List.length ls) sp, .slice xa (List.length lx) xp] ∧ Shs W sa ls ∧ ShD W ls ld ∧ Ents W xa lx ∧ ls.length * 40 ≤ 140737488351232 ∧ lx.length * 72 ≤ 140737488351232 ∧ ∀ l ∈ ld, l.length ≤ 140737488351232 := by
  obtain ⟨xs, f, _, rfl, hl, hlen, hf⟩ := DataW.trod_struct Tryz.underlying32 h
  have hlen : xs.length = 4 := hlen
  obtain ⟨y0, hy0⟩ := nth hlen (i := 0) (by omega)
  obtain ⟨y1, hy1⟩ := nth hlen (i := 1) (by omega)
  obtain ⟨y2, hy2⟩ := nth hlen (i := 2) (by omega)
  obtain ⟨y3, hy3⟩ := nth hlen (i := 3) (by omega)
  have g0 : DataW.trod enc Tryz.prog W 0 (fun _ => true) true f 3 ((cs.drop 0).take (Tryz.prog.cellsOf 3)) = some y0 := (hf 0 _ rfl).trans hy0
  rw [co3] at g0
  have g1 : DataW.trod enc Tryz.prog W 0 (fun _ => true) true f 3 ((cs.drop 1).take (Tryz.prog.cellsOf 3)) = some y1 := (hf 1 _ rfl).trans hy1
  rw [co3] at g1
  have g2 : DataW.trod enc Tryz.prog W 0 (fun _ => true) true f 30 ((cs.drop 2).take (Tryz.prog.cellsOf 30)) = some y2 := (hf 2 _ rfl).trans hy2
  rw [co30] at g2
  have g3 : DataW.trod enc Tryz.prog W 0 (fun _ => true) true f 29 ((cs.drop 3).take (Tryz.prog.cellsOf 29)) = some y3 := (hf 3 _ rfl).trans hy3
  rw [co29] at g3
  rw [co32] at hl
  have hz2 : ∀ n ∈ y2.1.weights Tryz.prog 30, n ≤ reachBytes := fun n hn => hz n (by
    simp only [DataW.weights, Tryz.underlying32]
    exact DataW.weights_mem_each (j := 2) rfl (by simp [hy2]) n hn)
  have hz3 : ∀ n ∈ y3.1.weights Tryz.prog 29, n ≤ reachBytes := fun n hn => hz n (by
    simp only [DataW.weights, Tryz.underlying32]
    exact DataW.weights_mem_each (j := 3) rfl (by simp [hy3]) n hn)
  obtain ⟨c, e0, _, _⟩ := DataW.trod_int Tryz.underlying3 g0
  obtain ⟨n, e1, _, _⟩ := DataW.trod_int Tryz.underlying3 g1
  obtain ⟨sa, ls, sp, ld, e2, h1, h2, h3, h4⟩ := sheets_cells g2 hz2
  obtain ⟨xa, lx, xp, e3, h5, h6⟩ := ents_cells g3 hz3
  exact ⟨c, n, sa, ls, sp, xa, lx, xp, ld, list4 hl e0 e1 e2 e3, h1, h2, h5, h3, h6, h4⟩
/-- How great the lists of a message are. -/
structure Sz (li : List ByteArray) (le : List Ent) (ls : List Sh) (lx : List Ent) (ld : List (List UInt8)) : Prop where
  i : (li.length + 1) * 16 ≤ 140737488355328
  e : (le.length + 1) * 72 ≤ 140737488355328
  x : (lx.length + 1) * 72 ≤ 140737488355328
  s : (ls.length + 1) * 40 ≤ 140737488355328
  b : ∀ l ∈ ld, l.length ≤ 140737488355000
set_option maxRecDepth 100000 in
theorem msg_cells (h : DataW.trod enc Tryz.prog W 0 (fun _ => true) true fuel 34 cs = some x) (hz : ∀ n ∈ x.1.weights Tryz.prog 34, n ≤ reachBytes) : ∃ (m : Ms) (li : List ByteArray) (le : List Ent) (ls : List Sh) (lx : List Ent) (ld : List (List UInt8)), cs = m.cells ∧ Ml W m li le ls lx ∧ ShD W ls ld ∧ Sz li le ls lx ld := by
  obtain ⟨xs, f, _, rfl, hl, hlen, hf⟩ := DataW.trod_struct Tryz.underlying34 h
  have hlen : xs.length = 14 := hlen
  obtain ⟨y0, hy0⟩ := nth hlen (i := 0) (by omega)
  obtain ⟨y1, hy1⟩ := nth hlen (i := 1) (by omega)
  obtain ⟨y2, hy2⟩ := nth hlen (i := 2) (by omega)
  obtain ⟨y3, hy3⟩ := nth hlen (i := 3) (by omega)
  obtain ⟨y4, hy4⟩ := nth hlen (i := 4) (by omega)
  obtain ⟨y5, hy5⟩ := nth hlen (i := 5) (by omega)
  obtain ⟨y6, hy6⟩ := nth hlen (i := 6) (by omega)
  obtain ⟨y7, hy7⟩ := nth hlen (i := 7) (by omega)
  obtain ⟨y8, hy8⟩ := nth hlen (i := 8) (by omega)
  obtain ⟨y9, hy9⟩ := nth hlen (i := 9) (by omega)
  obtain ⟨y10, hy10⟩ := nth hlen (i := 10) (by omega)
  obtain ⟨y11, hy11⟩ := nth hlen (i := 11) (by omega)
  obtain ⟨y12, hy12⟩ := nth hlen (i := 12) (by omega)
  obtain ⟨y13, hy13⟩ := nth hlen (i := 13) (by omega)
  have g0 : DataW.trod enc Tryz.prog W 0 (fun _ => true) true f 3 ((cs.drop 0).take (Tryz.prog.cellsOf 3)) = some y0 := (hf 0 _ rfl).trans hy0
  rw [co3] at g0
  have g1 : DataW.trod enc Tryz.prog W 0 (fun _ => true) true f 3 ((cs.drop 1).take (Tryz.prog.cellsOf 3)) = some y1 := (hf 1 _ rfl).trans hy1
  rw [co3] at g1
  have g2 : DataW.trod enc Tryz.prog W 0 (fun _ => true) true f 3 ((cs.drop 2).take (Tryz.prog.cellsOf 3)) = some y2 := (hf 2 _ rfl).trans hy2
  rw [co3] at g2
  have g3 : DataW.trod enc Tryz.prog W 0 (fun _ => true) true f 3 ((cs.drop 3).take (Tryz.prog.cellsOf 3)) = some y3 := (hf 3 _ rfl).trans hy3
  rw [co3] at g3
  have g4 : DataW.trod enc Tryz.prog W 0 (fun _ => true) true f 3 ((cs.drop 4).take (Tryz.prog.cellsOf 3)) = some y4 := (hf 4 _ rfl).trans hy4
  rw [co3] at g4
  have g5 : DataW.trod enc Tryz.prog W 0 (fun _ => true) true f 3 ((cs.drop 5).take (Tryz.prog.cellsOf 3)) = some y5 := (hf 5 _ rfl).trans hy5
  rw [co3] at g5
  have g6 : DataW.trod enc Tryz.prog W 0 (fun _ => true) true f 3 ((cs.drop 6).take (Tryz.prog.cellsOf 3)) = some y6 := (hf 6 _ rfl).trans hy6
  rw [co3] at g6
  have g7 : DataW.trod enc Tryz.prog W 0 (fun _ => true) true f 3 ((cs.drop 7).take (Tryz.prog.cellsOf 3)) = some y7 := (hf 7 _ rfl).trans hy7
  rw [co3] at g7
  have g8 : DataW.trod enc Tryz.prog W 0 (fun _ => true) true f 3 ((cs.drop 8).take (Tryz.prog.cellsOf 3)) = some y8 := (hf 8 _ rfl).trans hy8
  rw [co3] at g8
  have g9 : DataW.trod enc Tryz.prog W 0 (fun _ => true) true f 4 ((cs.drop 9).take (Tryz.prog.cellsOf 4)) = some y9 := (hf 9 _ rfl).trans hy9
  rw [co4] at g9
  have g10 : DataW.trod enc Tryz.prog W 0 (fun _ => true) true f 25 ((cs.drop 10).take (Tryz.prog.cellsOf 25)) = some y10 := (hf 10 _ rfl).trans hy10
  rw [co25] at g10
  have g11 : DataW.trod enc Tryz.prog W 0 (fun _ => true) true f 28 ((cs.drop 15).take (Tryz.prog.cellsOf 28)) = some y11 := (hf 11 _ rfl).trans hy11
  rw [co28] at g11
  have g12 : DataW.trod enc Tryz.prog W 0 (fun _ => true) true f 29 ((cs.drop 18).take (Tryz.prog.cellsOf 29)) = some y12 := (hf 12 _ rfl).trans hy12
  rw [co29] at g12
  have g13 : DataW.trod enc Tryz.prog W 0 (fun _ => true) true f 32 ((cs.drop 19).take (Tryz.prog.cellsOf 32)) = some y13 := (hf 13 _ rfl).trans hy13
  rw [co32] at g13
  rw [co34] at hl
  have hz11 : ∀ n ∈ y11.1.weights Tryz.prog 28, n ≤ reachBytes := fun n hn => hz n (by
    simp only [DataW.weights, Tryz.underlying34]
    exact DataW.weights_mem_each (j := 11) rfl (by simp [hy11]) n hn)
  have hz12 : ∀ n ∈ y12.1.weights Tryz.prog 29, n ≤ reachBytes := fun n hn => hz n (by
    simp only [DataW.weights, Tryz.underlying34]
    exact DataW.weights_mem_each (j := 12) rfl (by simp [hy12]) n hn)
  have hz13 : ∀ n ∈ y13.1.weights Tryz.prog 32, n ≤ reachBytes := fun n hn => hz n (by
    simp only [DataW.weights, Tryz.underlying34]
    exact DataW.weights_mem_each (j := 13) rfl (by simp [hy13]) n hn)
  obtain ⟨mk, e0, _, _⟩ := DataW.trod_int Tryz.underlying3 g0
  obtain ⟨mf, e1, _, _⟩ := DataW.trod_int Tryz.underlying3 g1
  obtain ⟨mt, e2, _, _⟩ := DataW.trod_int Tryz.underlying3 g2
  obtain ⟨mv, e3, _, _⟩ := DataW.trod_int Tryz.underlying3 g3
  obtain ⟨mn, e4, _, _⟩ := DataW.trod_int Tryz.underlying3 g4
  obtain ⟨mc, e5, _, _⟩ := DataW.trod_int Tryz.underlying3 g5
  obtain ⟨mo, e6, _, _⟩ := DataW.trod_int Tryz.underlying3 g6
  obtain ⟨ml, e7, _, _⟩ := DataW.trod_int Tryz.underlying3 g7
  obtain ⟨mq, e8, _, _⟩ := DataW.trod_int Tryz.underlying3 g8
  obtain ⟨mh, e9, _⟩ := DataW.trod_bool Tryz.underlying4 g9
  obtain ⟨ok, nm, tx, on, om, e10⟩ := op_cells g10
  obtain ⟨rc, rn, ra, li, rp, e11, hr, br⟩ := res_cells g11 hz11
  obtain ⟨ea, le, ep, e12, he, be⟩ := ents_cells g12 hz12
  obtain ⟨cf, cb, sa, ls, sp, xa, lx, xp, ld, e13, hs, hd, hx, bs, bx, bd'⟩ := cargo_cells g13 hz13
  refine ⟨⟨mk, mf, mt, mv, mn, mc, mo, ml, mq, mh, ok, nm, tx, on, om, rc, rn, ra, li.length, rp, ea, le.length, ep, cf, cb, sa, ls.length, sp, xa, lx.length, xp⟩, li, le, ls, lx, ld, list23 hl e0 e1 e2 e3 e4 e5 e6 e7 e8 e9 e10 e11 e12 e13, ⟨hr, he, hs, hx, rfl, rfl, rfl, rfl, ?_, ?_, ?_, ?_⟩, hd, ⟨by omega, by omega, by omega, by omega, fun l hl => by have := bd' l hl; omega⟩⟩
  · show li.length ≤ _; omega
  · show le.length ≤ _; omega
  · show ls.length ≤ _; omega
  · show lx.length ≤ _; omega
/-- A message that came in. -/
theorem open_msg {v : Value} {d : DataW H} {p : List MemPlace} (h : DataW.Trod enc Tryz.prog W 0 (fun _ => true) true 34 v d p) (hv : ∃ cs, v = .agg cs ∧ cs.size = Tryz.prog.cellsOf 34) (hz : ∀ n ∈ d.weights Tryz.prog 34, n ≤ reachBytes) : ∃ (m : Ms) (li : List ByteArray) (le : List Ent) (ls : List Sh) (lx : List Ent) (ld : List (List UInt8)), v = .agg m.cells.toArray ∧ Ml W m li le ls lx ∧ ShD W ls ld ∧ Sz li le ls lx ld := by
  obtain ⟨fuel, hf⟩ := h
  obtain ⟨cs, rfl, _⟩ := hv
  obtain ⟨m, li, le, ls, lx, ld, e, r⟩ := msg_cells hf hz
  refine ⟨m, li, le, ls, lx, ld, ?_, r⟩
  obtain ⟨q⟩ := cs
  have e : q = _ := e
  rw [e]
theorem open_i64 {n : Int} {d : DataW H} {p : List MemPlace} (h : DataW.Trod enc Tryz.prog W 0 (fun _ => true) true 3 (.int .i64 n) d p) : -9223372036854775808 ≤ n ∧ n ≤ 9223372036854775807 := by
  obtain ⟨fuel, hf⟩ := h
  obtain ⟨k, e, _, hw⟩ := DataW.trod_int Tryz.underlying3 hf
  simp only [Value.cells, List.cons.injEq, Value.int.injEq, and_true, true_and] at e
  subst e
  exact i64_wf hw
end
end Go.Proofs.YthoppemjfdnibaaGreatDoor
