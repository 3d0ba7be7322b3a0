import Derived.Test.YtblojlaifnmimaaGreatDoorLe
import Derived.Test.YtblojlaifnmimaaGreatDoorPr
import Derived.Deep.Slices
namespace Go.Proofs.YtblojlaifnmimaaGreatDoor
open Go.ChangeShapes Go.WideShapes Go.ChangeAt Go.RowKit Go.Deep
set_option linter.unusedVariables false

theorem Tryz.cells27 : Tryz.prog.cellsOf 27 = 11 := by kernel_rfl
theorem Tryz.cells24 : Tryz.prog.cellsOf 24 = 10 := by kernel_rfl
theorem Tryz.cells25 : Tryz.prog.cellsOf 25 = 1 := by kernel_rfl
theorem Tryz.cells43 : Tryz.prog.cellsOf 43 = 10 := by kernel_rfl
theorem Tryz.bytes43 : Tryz.prog.bytesOf 43 = 96 := by kernel_rfl
theorem reach_num : reachBytes = 140737488351232 := by decide
theorem spot_of {a : Addr} {W : World} {u : Value} (h : W.cell? (a.add 0) = some u) : a.spot = none ∧ a.block < W.heap.size := by
  have h1 := World.cell?_spot h
  have h2 := World.block_lt_of_cell? W _ h
  exact ⟨by simpa [Addr.add] using h1, by simpa [Addr.add] using h2⟩
theorem list10c {l : List Value} {x0 x1 x2 x3 x4 x5 x6 x7 x8 x9 : Value} (hl : l.length = 10) (h0 : (l.drop 0).take 1 = [x0]) (h1 : (l.drop 1).take 1 = [x1]) (h2 : (l.drop 2).take 1 = [x2]) (h3 : (l.drop 3).take 1 = [x3]) (h4 : (l.drop 4).take 1 = [x4]) (h5 : (l.drop 5).take 1 = [x5]) (h6 : (l.drop 6).take 1 = [x6]) (h7 : (l.drop 7).take 1 = [x7]) (h8 : (l.drop 8).take 1 = [x8]) (h9 : (l.drop 9).take 1 = [x9]) : l = [x0, x1, x2, x3, x4, x5, x6, x7, x8, x9] := by
  match l, hl with
  | [y0, y1, y2, y3, y4, y5, y6, y7, y8, y9], _ => simp at h0 h1 h2 h3 h4 h5 h6 h7 h8 h9; simp [h0, h1, h2, h3, h4, h5, h6, h7, h8, h9]
theorem list10s {l t : List Value} {x0 x1 x2 x3 x4 : Value} (hl : l.length = 10) (h0 : (l.drop 0).take 1 = [x0]) (h1 : (l.drop 1).take 1 = [x1]) (h2 : (l.drop 2).take 1 = [x2]) (h3 : (l.drop 3).take 1 = [x3]) (h4 : (l.drop 4).take 1 = [x4]) (h5 : (l.drop 5).take 5 = t) : l = [x0, x1, x2, x3, x4] ++ t := by
  subst h5
  match l, hl with
  | [y0, y1, y2, y3, y4, y5, y6, y7, y8, y9], _ => simp at h0 h1 h2 h3 h4; simp [h0, h1, h2, h3, h4]
section
variable {H : Type} {enc : TypeId × Value → H} {W : World} {base : Nat} {sp : Nat → Bool} {held : Bool} {fuel : Nat} {cs : List Value} {x : DataW H × List MemPlace}
set_option maxRecDepth 100000 in
theorem cfg_cells (h : DataW.trod enc Tryz.prog W base sp held fuel 24 cs = some x) : ∃ c : List Int, c.length = 10 ∧ cs = cI c := by
  obtain ⟨xs, f, _, rfl, hl, hlen, hf⟩ := DataW.trod_struct Tryz.underlying24 h
  have hlen : xs.length = 10 := hlen
  rw [Tryz.cells24] at hl
  obtain ⟨y0, hy0⟩ := nth hlen (i := 0) (by omega)
  have g0 : DataW.trod enc Tryz.prog W base sp held f 3 ((cs.drop 0).take (Tryz.prog.cellsOf 3)) = some y0 := (hf 0 _ rfl).trans hy0
  rw [Tryz.cells3] at g0
  obtain ⟨k0, e0, _, _⟩ := DataW.trod_int Tryz.underlying3 g0
  obtain ⟨y1, hy1⟩ := nth hlen (i := 1) (by omega)
  have g1 : DataW.trod enc Tryz.prog W base sp held f 3 ((cs.drop 1).take (Tryz.prog.cellsOf 3)) = some y1 := (hf 1 _ rfl).trans hy1
  rw [Tryz.cells3] at g1
  obtain ⟨k1, e1, _, _⟩ := DataW.trod_int Tryz.underlying3 g1
  obtain ⟨y2, hy2⟩ := nth hlen (i := 2) (by omega)
  have g2 : DataW.trod enc Tryz.prog W base sp held f 3 ((cs.drop 2).take (Tryz.prog.cellsOf 3)) = some y2 := (hf 2 _ rfl).trans hy2
  rw [Tryz.cells3] at g2
  obtain ⟨k2, e2, _, _⟩ := DataW.trod_int Tryz.underlying3 g2
  obtain ⟨y3, hy3⟩ := nth hlen (i := 3) (by omega)
  have g3 : DataW.trod enc Tryz.prog W base sp held f 3 ((cs.drop 3).take (Tryz.prog.cellsOf 3)) = some y3 := (hf 3 _ rfl).trans hy3
  rw [Tryz.cells3] at g3
  obtain ⟨k3, e3, _, _⟩ := DataW.trod_int Tryz.underlying3 g3
  obtain ⟨y4, hy4⟩ := nth hlen (i := 4) (by omega)
  have g4 : DataW.trod enc Tryz.prog W base sp held f 3 ((cs.drop 4).take (Tryz.prog.cellsOf 3)) = some y4 := (hf 4 _ rfl).trans hy4
  rw [Tryz.cells3] at g4
  obtain ⟨k4, e4, _, _⟩ := DataW.trod_int Tryz.underlying3 g4
  obtain ⟨y5, hy5⟩ := nth hlen (i := 5) (by omega)
  have g5 : DataW.trod enc Tryz.prog W base sp held f 3 ((cs.drop 5).take (Tryz.prog.cellsOf 3)) = some y5 := (hf 5 _ rfl).trans hy5
  rw [Tryz.cells3] at g5
  obtain ⟨k5, e5, _, _⟩ := DataW.trod_int Tryz.underlying3 g5
  obtain ⟨y6, hy6⟩ := nth hlen (i := 6) (by omega)
  have g6 : DataW.trod enc Tryz.prog W base sp held f 3 ((cs.drop 6).take (Tryz.prog.cellsOf 3)) = some y6 := (hf 6 _ rfl).trans hy6
  rw [Tryz.cells3] at g6
  obtain ⟨k6, e6, _, _⟩ := DataW.trod_int Tryz.underlying3 g6
  obtain ⟨y7, hy7⟩ := nth hlen (i := 7) (by omega)
  have g7 : DataW.trod enc Tryz.prog W base sp held f 3 ((cs.drop 7).take (Tryz.prog.cellsOf 3)) = some y7 := (hf 7 _ rfl).trans hy7
  rw [Tryz.cells3] at g7
  obtain ⟨k7, e7, _, _⟩ := DataW.trod_int Tryz.underlying3 g7
  obtain ⟨y8, hy8⟩ := nth hlen (i := 8) (by omega)
  have g8 : DataW.trod enc Tryz.prog W base sp held f 3 ((cs.drop 8).take (Tryz.prog.cellsOf 3)) = some y8 := (hf 8 _ rfl).trans hy8
  rw [Tryz.cells3] at g8
  obtain ⟨k8, e8, _, _⟩ := DataW.trod_int Tryz.underlying3 g8
  obtain ⟨y9, hy9⟩ := nth hlen (i := 9) (by omega)
  have g9 : DataW.trod enc Tryz.prog W base sp held f 3 ((cs.drop 9).take (Tryz.prog.cellsOf 3)) = some y9 := (hf 9 _ rfl).trans hy9
  rw [Tryz.cells3] at g9
  obtain ⟨k9, e9, _, _⟩ := DataW.trod_int Tryz.underlying3 g9
  exact ⟨[k0, k1, k2, k3, k4, k5, k6, k7, k8, k9], rfl, list10c hl e0 e1 e2 e3 e4 e5 e6 e7 e8 e9⟩
set_option maxRecDepth 100000 in
theorem step_cells (h : DataW.trod enc Tryz.prog W base sp held fuel 43 cs = some x) : ∃ s : Sp, cs = s.vals ∧ spI s := by
  obtain ⟨xs, f, _, rfl, hl, hlen, hf⟩ := DataW.trod_struct Tryz.underlying43 h
  have hlen : xs.length = 6 := hlen
  rw [Tryz.cells43] at hl
  obtain ⟨y0, hy0⟩ := nth hlen (i := 0) (by omega)
  have g0 : DataW.trod enc Tryz.prog W base sp held f 3 ((cs.drop 0).take (Tryz.prog.cellsOf 3)) = some y0 := (hf 0 _ rfl).trans hy0
  rw [Tryz.cells3] at g0
  obtain ⟨k0, e0, _, w0⟩ := DataW.trod_int Tryz.underlying3 g0
  have b0 := i64_wf w0
  obtain ⟨y1, hy1⟩ := nth hlen (i := 1) (by omega)
  have g1 : DataW.trod enc Tryz.prog W base sp held f 3 ((cs.drop 1).take (Tryz.prog.cellsOf 3)) = some y1 := (hf 1 _ rfl).trans hy1
  rw [Tryz.cells3] at g1
  obtain ⟨k1, e1, _, w1⟩ := DataW.trod_int Tryz.underlying3 g1
  have b1 := i64_wf w1
  obtain ⟨y2, hy2⟩ := nth hlen (i := 2) (by omega)
  have g2 : DataW.trod enc Tryz.prog W base sp held f 3 ((cs.drop 2).take (Tryz.prog.cellsOf 3)) = some y2 := (hf 2 _ rfl).trans hy2
  rw [Tryz.cells3] at g2
  obtain ⟨k2, e2, _, w2⟩ := DataW.trod_int Tryz.underlying3 g2
  have b2 := i64_wf w2
  obtain ⟨y3, hy3⟩ := nth hlen (i := 3) (by omega)
  have g3 : DataW.trod enc Tryz.prog W base sp held f 3 ((cs.drop 3).take (Tryz.prog.cellsOf 3)) = some y3 := (hf 3 _ rfl).trans hy3
  rw [Tryz.cells3] at g3
  obtain ⟨k3, e3, _, w3⟩ := DataW.trod_int Tryz.underlying3 g3
  have b3 := i64_wf w3
  obtain ⟨y4, hy4⟩ := nth hlen (i := 4) (by omega)
  have g4 : DataW.trod enc Tryz.prog W base sp held f 3 ((cs.drop 4).take (Tryz.prog.cellsOf 3)) = some y4 := (hf 4 _ rfl).trans hy4
  rw [Tryz.cells3] at g4
  obtain ⟨k4, e4, _, w4⟩ := DataW.trod_int Tryz.underlying3 g4
  have b4 := i64_wf w4
  obtain ⟨y5, hy5⟩ := nth hlen (i := 5) (by omega)
  have g5 : DataW.trod enc Tryz.prog W base sp held f 41 ((cs.drop 5).take (Tryz.prog.cellsOf 41)) = some y5 := (hf 5 _ rfl).trans hy5
  rw [Tryz.cells41] at g5
  obtain ⟨k, nm, tx, n, m, e5⟩ := op_cells g5
  refine ⟨⟨k0, k1, k2, k3, k4, ⟨k, nm.data.toList, tx.data.toList, n, m⟩⟩, list10s hl e0 e1 e2 e3 e4 e5, ?_⟩
  exact ⟨by show k1 ≤ _; omega, by show k2 ≤ _; omega, by show k3 ≤ _; omega, by show k4 ≤ _; omega⟩
set_option maxRecDepth 100000 in
theorem steps_cells (h : DataW.trod enc Tryz.prog W base sp held fuel 25 cs = some x) (hz : ∀ n ∈ x.1.weights Tryz.prog 25, n ≤ reachBytes) : ∃ v ss, cs = [v] ∧ Sps W v ss ∧ (∀ s ∈ ss, spI s) ∧ ss.length ≤ 140737488355328 := by
  rcases open_slice Tryz.underlying25 h with ⟨hcs, hx⟩ | ⟨a, len, cap, m, n, D, Pl, hcs, _, hl, hm, hmm, hx, hel⟩
  · exact ⟨_, [], hcs, ⟨none, 0, rfl, by simp, fun i x hx => by simp at hx⟩, (fun s hs => by cases hs), by simp⟩
  · have hlm : len ≤ m := by rw [hmm]; split <;> omega
    have hw : len * 96 ≤ 140737488351232 := by
      have := hz ((len + (m - len)) * 96) (by
        rw [hx]
        simp [DataW.weights, Tryz.underlying25, Tryz.bytes43])
      rw [reach_num] at this
      omega
    have each : ∀ i, i < len → ∃ s : Sp, spI s ∧ ∀ j u, s.vals[j]? = some u → W.cell? (a.add (i * 10 + j)) = some u := by
      intro i hi
      obtain ⟨cs', h1, h2⟩ := hel i (by omega)
      rw [Tryz.cells43] at h1
      obtain ⟨_, hlen, hcell⟩ := World.cells?_some h1
      obtain ⟨s, rfl, hs⟩ := step_cells h2
      refine ⟨s, hs, fun j u hu => ?_⟩
      have hj : j < 10 := by
        have := (List.getElem?_eq_some_iff.1 hu).1
        rwa [s.len] at this
      have q := hcell j (by omega)
      rw [add_add] at q
      rw [q, ← hu]
    haveI : Inhabited Sp := ⟨Sp.zero⟩
    obtain ⟨f, hf'⟩ := choose_lt each
    refine ⟨_, (List.range len).map f, hcs, ⟨some a, cap, by simp, by simpa using hl, fun i s he => ?_⟩, fun s hs => ?_, by simp; omega⟩
    · have hi : i < len := by
        have := (List.getElem?_eq_some_iff.1 he).1
        simpa using this
      obtain rfl : f i = s := by
        rw [List.getElem?_map, List.getElem?_range hi] at he
        simpa using he
      have h00 := (hf' 0 (by omega)).2 0 _ rfl
      obtain ⟨hsp, hb⟩ := spot_of (by simpa using h00)
      obtain ⟨b, off, sp⟩ := a
      simp only at hsp
      subst hsp
      refine ⟨b, off, rfl, hb, fun j u hu => ?_⟩
      have := (hf' i hi).2 j u hu
      rw [Addr.add_lit] at this
      rw [Nat.add_assoc]
      exact this
    · obtain ⟨i, hi, rfl⟩ := List.mem_map.1 hs
      exact (hf' i (List.mem_range.1 hi)).1
set_option maxRecDepth 100000 in
/-- A play that came in. -/
theorem open_play {v : Value} {d : DataW H} {p : List MemPlace} (h : DataW.Trod enc Tryz.prog W 0 (fun _ => true) true 27 v d p) (hv : ∃ cs, v = .agg cs ∧ cs.size = Tryz.prog.cellsOf 27) (hz : ∀ n ∈ d.weights Tryz.prog 27, n ≤ reachBytes) :
    ∃ c sv ss, v = .agg (cI c ++ [sv]).toArray ∧ c.length = 10 ∧ Sps W sv ss ∧ (∀ s ∈ ss, spI s) ∧ ss.length ≤ 140737488355328 := by
  obtain ⟨fuel, hf0⟩ := h
  obtain ⟨cs, rfl, _⟩ := hv
  obtain ⟨xs, f, _, hx, hl, hlen, hf⟩ := DataW.trod_struct Tryz.underlying27 hf0
  have hx1 : d = .agg (xs.map (·.1)) := congrArg Prod.fst hx
  subst hx1
  have hlen : xs.length = 2 := hlen
  rw [Tryz.cells27] at hl
  obtain ⟨y0, hy0⟩ := nth hlen (i := 0) (by omega)
  obtain ⟨y1, hy1⟩ := nth hlen (i := 1) (by omega)
  have g0 : DataW.trod enc Tryz.prog W 0 (fun _ => true) true f 24 ((cs.toList.drop 0).take (Tryz.prog.cellsOf 24)) = some y0 := (hf 0 _ rfl).trans hy0
  have g1 : DataW.trod enc Tryz.prog W 0 (fun _ => true) true f 25 ((cs.toList.drop 10).take (Tryz.prog.cellsOf 25)) = some y1 := (hf 1 _ rfl).trans hy1
  rw [Tryz.cells24] at g0
  rw [Tryz.cells25] at g1
  have hz1 : ∀ n ∈ y1.1.weights Tryz.prog 25, n ≤ reachBytes := fun n hn => hz n (by
    simp only [DataW.weights, Tryz.underlying27]
    exact DataW.weights_mem_each (j := 1) rfl (by simp [hy1]) n hn)
  obtain ⟨c, hc, e0⟩ := cfg_cells g0
  obtain ⟨sv, ss, e1, hs, hI, hn⟩ := steps_cells g1 hz1
  refine ⟨c, sv, ss, ?_, hc, hs, hI, hn⟩
  obtain ⟨l⟩ := cs
  have hl : l.length = 11 := hl
  have e0 : (l.drop 0).take 10 = cI c := e0
  have e1 : (l.drop 10).take 1 = [sv] := e1
  have : l = cI c ++ [sv] := by
    rw [← e0, ← e1, List.drop_zero]
    rw [show (l.drop 10).take 1 = l.drop 10 from List.take_of_length_le (by simp [hl])]
    exact (List.take_append_drop 10 l).symm
  rw [this]
end
set_option maxRecDepth 100000 in
theorem okWide_play {W : World} {base : Nat} {v : Value} (h : Value.okWide Tryz.prog W .any base 27 v) : ∃ cs, v = .agg cs ∧ cs.size = Tryz.prog.cellsOf 27 := okWide_struct Tryz.underlying27 h
end Go.Proofs.YtblojlaifnmimaaGreatDoor
