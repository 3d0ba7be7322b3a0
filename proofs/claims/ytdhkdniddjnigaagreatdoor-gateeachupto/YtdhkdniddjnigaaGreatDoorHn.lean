import Derived.Test.YtdhkdniddjnigaaGreatDoorJ21
namespace Go.Proofs.YtdhkdniddjnigaaGreatDoor
open Go.RowKit
set_option linter.unusedVariables false

theorem sz1 (V : World) (o : Obj) : (V.alloc o).heap.size = V.heap.size + 1 := by simp
theorem bytesRow_at (l : List UInt8) (c : Nat) {j : Nat} {u : Value} (h : (cellsB l)[j]? = some u) : (bytesRow ⟨l.toArray⟩ c)[j]? = some u := by
  have hl : j < l.length := by have := (List.getElem?_eq_some_iff.1 h).1; rwa [cellsB_length] at this
  unfold bytesRow
  rw [Array.getElem?_append_left (by simpa using hl)]
  rw [← h]
  simp [cellsB]
/-- A text's bytes, laid anew. -/
theorem conv_own {cs : List Comp} {w : World} (h : All cs w) (l : List UInt8) : ∃ c w', (convert 9 40 (.string ⟨l.toArray⟩)).run Tryz.prog w = .ok (.slice (some ⟨w.heap.size, 0, none⟩) l.length c) w' ∧ All (rdC (.slice (some ⟨w.heap.size, 0, none⟩) l.length c) l :: cs) w' := by
  have e := run_bytes_of_string (P := Tryz.prog) w 9 40 5 ⟨l.toArray⟩ Tryz.underlying9 Tryz.underlying40 Tryz.underlying5
  have hsz : (⟨l.toArray⟩ : ByteArray).size = l.length := by simp [ByteArray.size]
  have hcap : l.length ≤ grownCap w (⟨l.toArray⟩ : ByteArray).size 0 5 := by
    have := grownCap_ge w (⟨l.toArray⟩ : ByteArray).size 0 5
    omega
  generalize grownCap w (⟨l.toArray⟩ : ByteArray).size 0 5 = c at *
  rw [hsz] at e
  refine ⟨c, _, e, ?_⟩
  have hd := h.drew
  refine hd.add (Fr.below (ba w.drew _)) (rdC_good _ _) ⟨_, _, rfl, hcap, Or.inr ⟨_, 0, rfl, ?_, fun j u hu => ?_⟩⟩ (fun k hk => ?_)
  · exact Nat.lt_of_lt_of_eq (Nat.lt_succ_self _) (sz1 w.drew _).symm
  · rw [Nat.zero_add]
    refine (World.cell?_alloc_mark w.drew _ _ _ j).trans ?_
    exact bytesRow_at l c hu
  · have : k = w.heap.size := by simpa [rdC, Value.ownBlock, eq_comm] using hk
    subst this
    exact ⟨Nat.le_refl _, Nat.lt_of_lt_of_eq (Nat.lt_succ_self _) (sz1 w.drew _).symm⟩
theorem Gt.addConv {G P : Nat} {s : Gs} {tl : List UInt8} {b m : Int} {cs : List Comp} {w : World} (h : Gt G P s tl b m cs w) (l : List UInt8) : ∃ c w', (convert 9 40 (.string ⟨l.toArray⟩)).run Tryz.prog w = .ok (.slice (some ⟨w.heap.size, 0, none⟩) l.length c) w' ∧ Gt G P s tl b m (rdC (.slice (some ⟨w.heap.size, 0, none⟩) l.length c) l :: cs) w' := by
  obtain ⟨x, y, z, h⟩ := h
  obtain ⟨c, w', e, hA⟩ := conv_own h l
  exact ⟨c, w', e, x, y, z, hA.perm List.perm_middle.symm⟩
theorem Gt.drop1 {G P : Nat} {s : Gs} {tl : List UInt8} {b m : Int} {X : Comp} {cs : List Comp} {w : World} (h : Gt G P s tl b m (X :: cs) w) : Gt G P s tl b m cs w := by
  obtain ⟨x, y, z, h⟩ := h
  exact ⟨x, y, z, (h.perm List.perm_middle).tail⟩
theorem add_nl (r : List UInt8) (hr : r.length ≤ 1000000000) (W : World) : (Op.stringOp .add ⟨r.toArray⟩ ⟨#[10]⟩).run Tryz.prog W = .ok (.string ⟨(r ++ [10]).toArray⟩) W := by
  have e : (⟨r.toArray⟩ : ByteArray) ++ ⟨#[10]⟩ = ⟨(r ++ [10]).toArray⟩ := by
    apply ByteArray.ext
    simp
  have h1 : (⟨r.toArray⟩ : ByteArray).size = r.length := by simp [ByteArray.size]
  have h2 : (⟨#[10]⟩ : ByteArray).size = 1 := rfl
  rw [run_string_add_sum _ _ _ (by omega), e]
theorem one_nl {w : World} (l : List UInt8) (hl : l.length ≤ 1000000000) : Calls Tryz.prog 19 #[.string ⟨l.toArray⟩] w fun e w' => ∃ (r : List UInt8) (SB SL : ByteArray), e = .returned (.string SB) ∧ w' = w ∧ (10 : UInt8) ∉ r ∧ r.length ≤ l.length ∧ (∀ W, (Op.stringOp .add SB ⟨#[10]⟩).run Tryz.prog W = .ok (.string SL) W) ∧ SL = ⟨(r ++ [10]).toArray⟩ := by
  refine (one_any l (by omega)).mono ?_
  rintro e w' ⟨r, rfl, rfl, h1, h2⟩
  exact ⟨r, _, _, rfl, rfl, h1, h2, add_nl r (by omega), rfl⟩
theorem ms_rngE {W : World} {aa : Option Addr} {ca n : Nat} {l : List Ms} {cs : List Comp} (h : All (msC (.slice aa n ca) l :: cs) W) {k : Nat} {x : Ms} (hx : l[k]? = some x) : ∃ g, aa = some ⟨g, 0, none⟩ ∧ W.rangeAt g (k * 23) x.cells := by
  have ho : W.ownsRow 0 51 23 (.slice aa n ca) l.length (l.flatMap Ms.cells) := h.1.2.1
  have h0 : (l.flatMap Ms.cells)[k * 23 + 0]? = some (.int .i64 x.k) := by rw [flat_at Ms.len hx (by decide)]; rfl
  obtain ⟨g, e, _, _⟩ := row_at ho h0
  refine ⟨g, e, fun j u hu => ?_⟩
  have hj : j < 23 := by have := (List.getElem?_eq_some_iff.1 hu).1; rwa [x.len] at this
  have h1 : (l.flatMap Ms.cells)[k * 23 + j]? = some u := by rw [flat_at Ms.len hx hj]; exact hu
  obtain ⟨g', e', _, hc⟩ := row_at ho h1
  rw [e] at e'
  simp only [Option.some.injEq, Addr.mk.injEq, and_true] at e'
  subst e'
  exact hc
def slLen : Value → Nat
  | .slice _ n _ => n
  | _ => 0
/-- A byte of what is read. -/
theorem reads_byte {w : World} {ao : Option Addr} {n c : Nat} {l : List UInt8} (h : Reads w (.slice ao n c) l) {j : Nat} {b : UInt8} (hb : l[j]? = some b) : ∃ g o, ao = some ⟨g, o, none⟩ ∧ w.cell? ⟨g, o + j, none⟩ = some (.int .u8 (b.toNat : Int)) := by
  obtain ⟨ao', c', e, _, hx⟩ := h
  simp only [Value.slice.injEq] at e
  obtain ⟨rfl, _, _⟩ := e
  rcases hx with ⟨rfl, _⟩ | ⟨g, o, rfl, _, hc⟩
  · simp at hb
  · refine ⟨g, o, rfl, hc j _ ?_⟩
    rw [cellsB, List.getElem?_map, hb]
    rfl
theorem reads_drop {w : World} {g o m co : Nat} {l : List UInt8} (h : Reads w (.slice (some ⟨g, o, none⟩) m co) l) {j : Nat} (hj : j ≤ m) : Reads w (.slice (if co = j then some ⟨g, o, none⟩ else some ⟨g, o + j, none⟩) (m - j) (co - j)) (l.drop j) := by
  obtain ⟨ao', c', e, hc, hx⟩ := h
  simp only [Value.slice.injEq] at e
  obtain ⟨e1, rfl, rfl⟩ := e
  refine ⟨_, _, by rw [List.length_drop], by rw [List.length_drop]; omega, ?_⟩
  by_cases hm : l.length = j
  · left
    refine ⟨by rw [List.drop_eq_nil_iff]; omega, fun e => ?_⟩
    split at e <;> cases e
  · right
    rw [if_neg (by omega)]
    rcases hx with ⟨rfl, _⟩ | ⟨g', o', e2, hg, hcell⟩
    · simp at hj hm; omega
    · rw [e2] at e1
      simp only [Option.some.injEq, Addr.mk.injEq, and_true] at e1
      obtain ⟨rfl, rfl⟩ := e1
      refine ⟨_, _, rfl, hg, fun i u hu => ?_⟩
      rw [Nat.add_assoc]
      refine hcell (j + i) u ?_
      rw [← hu]
      simp [cellsB, List.getElem?_drop]
set_option maxHeartbeats 12800000 in
set_option maxRecDepth 1000000 in
/-- THE LAW: each line is answered with at most one line, whose number is its own. -/
theorem each_law {w : World} {al : Option Addr} {cl : Nat} {ls : Ws} (E : Evs [inC w]) (hD : Cd w) (hT : Tab w) (hF : Fld w) (hR : Rt w (.slice al ls.length cl) ls) (hn : ls.length ≤ 10000000) (hs : ∀ x ∈ ls, x.length ≤ 100000000) :
    Calls Tryz.prog 5 #[.slice al ls.length cl] w fun e w' => e = .returned (.bool true) ∧ Below w.heap.size w w' := by
  have A0 := All.came w
  have AW := hid (awake_any A0 E)
  have C7 : Hid (∀ W cs, All cs W → Calls Tryz.prog 7 #[cfgV 3 2 2 3 16 64 4 4 16 4, .int .i64 0] W fun e w' => ∃ G P p1 p2, e = .returned (.tuple #[.pointer (some ⟨G, 0, none⟩), .int .i64 0]) ∧ Gt G P (gs0 (px0 3 0 p1 p2) 4 4) [] 4 64 cs w') := hid (fun W cs hW => New_gt hW 3 2 2 3 16 64 4 4 16 4 0 (by decide +kernel) (by decide) (by decide))
  have C13 : Hid (∀ W : World, Calls Tryz.prog 13 #[] W fun e w' => e = .returned (cfgV 3 2 2 3 16 64 4 4 16 4) ∧ w' = W.alloc (cfgB 3 2 2 3 16 64 4 4 16 4)) := hid (fun W => config_any)
  have HD : Hid (∀ W, All [inC w] W → Cd W) := hid (fun W h => hD.later (h.into (by simp)))
  have HT := hid hT
  have HF := hid hF
  have HE := hid E
  have HS := hid hs
  have RD : Hid (∀ W, Below w.heap.size w W → ∀ k x, ls[k]? = some x → ∃ g o, al = some ⟨g, o, none⟩ ∧ W.cell? ⟨g, o + k, none⟩ = some (.string ⟨x.toArray⟩)) := hid (fun W h k x hx => by
    obtain ⟨ao, c, e, hc, hh⟩ := hR
    simp only [Value.slice.injEq, true_and] at e
    obtain ⟨rfl, rfl⟩ := e
    have hk := (List.getElem?_eq_some_iff.1 hx).1
    rcases hh with rfl | ⟨g, o, e, hg, hcell⟩
    · simp at hk
    · refine ⟨g, o, e, ?_⟩
      rw [cell_under h hg (hcell k hk), (List.getElem?_eq_some_iff.1 hx).2])
  have I51 : Hid (∀ x : Ms, (Tryz.prog.info? 51).map (·.size) = some x.cells.length) := hid (fun x => show (Tryz.prog.info? 51).map (·.size) = some 23 by kernel_rfl)
  have J51 : Hid (∀ x : Ms, (Tryz.prog.info? 51).map (·.size) = some x.cells.toArray.size) := hid (fun x => show (Tryz.prog.info? 51).map (·.size) = some 23 by kernel_rfl)
  have Z51 : Hid (∀ x y : Ms, x.cells.toArray.size = y.cells.toArray.size) := hid (fun x y => rfl)
  have O51 : Hid (∀ x : Ms, x.cells.toArray.all (·.oneCell') = true) := hid (fun x => by simp [Ms.cells, Value.oneCell'])
  obtain ⟨n, hnn⟩ : ∃ n, Hid (n = ls.length) := ⟨_, hid rfl⟩
  have hnb : n ≤ 10000000 := by rw [hnn.out]; exact hn
  rw [← hnn.out]
  clear A0 E hD hT hF hR hn hs
  go_enter Tryz.func5, Tryz.ntmps5
  go_wp2_with fail
  refine AW.out.mono ?_
  rintro e w1 ⟨rfl, hA⟩
  have A1 := hid hA
  clear hA AW
  go_wp2_with fail
  refine (C13.out _).mono ?_
  rintro e w2 ⟨rfl, hw2⟩
  have A2 : Hid (All [inC w] w2) := hid (by rw [hw2]; exact A1.out.alloc _)
  clear hw2 A1 C13
  go_wp2_with fail
  refine (C7.out _ _ A2.out).mono ?_
  rintro e w3 ⟨G, P, p1, p2, rfl, hG⟩
  have I0 : Hid (Idle (gs0 (px0 3 0 p1 p2) 4 4) ((0 + 1 : Nat) : Int)) := hid ⟨rfl, rfl, rfl, rfl, rfl, rfl, rfl, rfl, rfl, (gs0_I (p1 := p1) (p2 := p2) (id := 0) (a0 := 3) (m := 64) (n := 4) (Or.inl rfl) (by decide) (by decide) (by decide)).px, by show (0 : Int) ≤ 0 ∧ (0 : Int) < 1099511627776; decide⟩
  have G3 := hid hG
  clear hG A2 C7
  generalize gs0 (px0 3 0 p1 p2) 4 4 = s0 at *
  go_wp2
  go_loopw [33] (fun u33 wr => ∃ (k : Nat) (s : Gs) (tl : List UInt8), u33 = .int .i64 (k : Int) ∧ k ≤ n ∧ Hid (Idle s ((k + 1 : Nat) : Int)) ∧ Hid (Told 0 k tl ∧ tl.length ≤ k * 400000) ∧ Hid (Gt G P s tl 4 64 [inC w] wr)) (fun u33 _ => n - (intOf u33).toNat)
  case atStart => exact ⟨0, s0, [], rfl, Nat.zero_le _, I0, hid ⟨.nil, Nat.zero_le _⟩, G3⟩
  case round =>
    clear G3 I0
    obtain ⟨k, s, tl, rfl, hk, HI, HTL, HG⟩ := hrel
    by_cases hlt : k < n
    · obtain ⟨x, hx⟩ : ∃ x, ls[k]? = some x := ⟨_, List.getElem?_eq_getElem (by rw [← hnn.out]; exact hlt)⟩
      obtain ⟨g, o, rfl, hcell⟩ := RD.out wr (HG.out.rest.into (by simp)) k x hx
      have ON := hid (one_nl (w := wr) x (by have := HS.out x (List.mem_of_getElem? hx); omega))
      have HX := hid (HS.out x (List.mem_of_getElem? hx))
      have hk1 : (k : Int) < (n : Int) := by omega
      clear RD HS hx
      go_wp2_with fail
      refine ON.out.mono ?_
      rintro e w4 ⟨r, SB, SL, rfl, rfl, h10, hlr, an, hSL⟩
      have H10 := hid h10
      have HLR := hid hlr
      obtain ⟨c9, w9, cv9, hG9⟩ := HG.out.addConv (r ++ [10])
      rw [← hSL] at cv9
      have hrl : (r ++ [10]).length = r.length + 1 := by simp
      rw [hrl] at cv9 hG9
      have G9a := hid hG9
      have FD := hid (feed_line (l := r) hG9 (HE.out.cons _) HI.out HTL.out.1 (fun W hW => rd_rdC hW) (by have := HLR.out; have := HX.out; omega) H10.out (by omega) (by have := HTL.out.2; omega))
      clear hG9 h10 hlr ON G9a hrl
      clear hSL
      go_wp2_with fail
      refine FD.out.mono ?_
      rintro e w5 ⟨a5, c5, s5, tl5, ms5, rfl, hR5, hl5, hG5⟩
      have R5 := hid hR5
      have L5 := hid hl5
      have G5 := hid hG5.drop2
      clear hR5 hl5 hG5 FD cv9
      go_wp2
      go_loopw [7, 8] (fun u7 u8 wr => ∃ (st : Nat) (a : Option Addr) (c : Nat) (s1 : Gs) (tl1 : List UInt8) (ms : List Ms), u7 = .slice a (List.length (α := Ms) ms) c ∧ u8 = .int .i64 (st : Int) ∧ st ≤ 1 ∧ Hid (Rnd k s1 tl1 st ms) ∧ Hid (tl1.length ≤ tl.length + 200000 + st * 200000) ∧ Hid (Gt G P s1 tl1 4 64 [msC (.slice a ms.length c) ms, inC w] wr)) (fun u7 u8 _ => 2 - (intOf u8).toNat)
      case atStart => exact ⟨0, a5, c5, s5, tl5, ms5, rfl, rfl, Nat.zero_le _, R5, L5, G5⟩
      case round =>
        clear R5 L5 G5 H10 HLR HX
        obtain ⟨st, a5, c5, s5, tl5, ms5, rfl, rfl, hst, R5, L5, G5⟩ := hrel
        by_cases hm : ms5.length = 0
        · obtain ⟨rfl, hI5, hT5⟩ := (rnd_len R5.out).1 hm
          have I5 := hid hI5
          have T5 := hid hT5
          clear hI5 hT5 hm R5
          generalize hz : (([] : List Ms).length) = z at *
          have hz0 : z = 0 := hz.symm
          clear hz
          subst hz0
          have wk : IntKind.i64.wrap ((k : Int) + 1) = ((k + 1 : Nat) : Int) := by rw [IntKind.wrap_i64]; omega
          have hst2 : (st : Int) < 99 := by omega
          go_wp2
          refine ⟨⟨k + 1, s5, tl5, rfl, hlt, I5, hid ⟨T5.out, by have := L5.out; have := HTL.out.2; omega⟩, hid G5.out.drop1⟩, ?_⟩
          simp only [intOf]; omega
        · obtain ⟨mm, rfl, rfl, hB5, hT5⟩ := (rnd_len R5.out).2 hm
          have B5 := hid hB5
          have T5 := hid hT5
          clear hB5 hT5 hm R5
          generalize wr = w5 at *
          obtain ⟨ga, rfl, _⟩ := ms_rngE (k := 0) (x := mm) G5.out.rest rfl
          have ST : Hid (∀ W ds, Gt G P s5 tl5 4 64 (ds ++ [inC w]) W → Calls Tryz.prog 20 #[.pointer (some ⟨G, 0, none⟩), .agg (RM mm).cells.toArray] W fun e w' => ∃ a c s' tl', e = .returned (.slice a 0 c) ∧ Idle s' ((k + 2 : Nat) : Int) ∧ Told 0 (k + 1) tl' ∧ tl'.length ≤ tl5.length + 200000 ∧ Gt G P s' tl' 4 64 (msC (.slice a 0 c) [] :: (ds ++ [inC w])) w') := hid (fun W ds h => step_busyE (w0 := w) h (HE.out.app ds) (fun W hW => HD.out W hW.app) (by simp) HT.out HF.out B5.out T5.out (by omega) (by have := L5.out; have := HTL.out.2; omega))
          have SA : Hid (∀ W ds, Gt G P s5 tl5 4 64 (ds ++ [msC (.slice (some ⟨ga, 0, none⟩) 1 c5) [mm], inC w]) W → W.rangeAt ga 0 mm.cells) := hid (fun W ds h => by
            have h2 : All [msC (.slice (some ⟨ga, 0, none⟩) 1 c5) [mm], inC w] W := h.rest.app
            obtain ⟨g', e', r⟩ := ms_rngE (k := 0) (x := mm) h2 rfl
            simp only [Option.some.injEq, Addr.mk.injEq, and_true] at e'
            subst e'
            exact r)
          have P0 := hid (SA.out _ [] G5.out)
          have G6 := hid (G5.out.addBlk [.int .i64 0, .int .i64 0, .int .i64 0, .int .i64 0, .int .i64 0, .int .i64 0, .int .i64 0, .int .i64 0, .int .i64 0, .bool false, .int .i64 0, .string ⟨#[]⟩, .string ⟨#[]⟩, .int .i64 0, .int .i64 0, .int .i64 0, .int .i64 0, .slice none 0 0, .slice none 0 0, .int .i64 0, .int .i64 0, .slice none 0 0, .slice none 0 0] 51)
          obtain ⟨D, hDD⟩ : ∃ D, Hid (D = w5.heap.size) := ⟨_, hid rfl⟩
          rw [← hDD.out] at G6
          have HB6 := hid G6.out.rest.1.2.1
          have G7 := hid (G6.out.setRow (vs' := mm.cells))
          have ZS : Hid ((#[.int .i64 0, .int .i64 0, .int .i64 0, .int .i64 0, .int .i64 0, .int .i64 0, .int .i64 0, .int .i64 0, .int .i64 0, .bool false, .int .i64 0, .string ⟨#[]⟩, .string ⟨#[]⟩, .int .i64 0, .int .i64 0, .int .i64 0, .int .i64 0, .slice none 0 0, .slice none 0 0, .int .i64 0, .int .i64 0, .slice none 0 0, .slice none 0 0] : Array Value).size = mm.cells.toArray.size) := hid rfl
          have e0 : ((0 : Nat) : Int) = 0 := rfl
          rw [e0]
          have e1 : (List.length [mm]) = 1 := rfl
          rw [e1]
          clear e0 e1
          go_upto_region 14 with (first
            | (refine wpList_load_mid rfl 51 _ rfl ga 0 rfl mm.cells _ P0.out Tryz.underlying51 rfl (I51.out mm) ?_)
            | (simp only [← hDD.out]; refine wpList_store_row rfl 51 _ _ rfl D mm.cells.toArray rfl rfl 51 _ HB6.out (J51.out mm) ZS.out (O51.out mm) ?_))
          generalize World.setRow _ _ _ = w7 at *
          have SB : Hid (∀ W ds, Gt G P s5 tl5 4 64 (ds ++ [blkC D mm.cells 51, msC (.slice (some ⟨ga, 0, none⟩) 1 c5) [mm], inC w]) W → W.cell? ⟨D, 8, none⟩ = some (.int .i64 mm.q)) := hid (fun W ds h => by
            have h2 : (blkC D mm.cells 51).holds W := (h.rest.mem (c := blkC D mm.cells 51) (by simp)).2.1
            exact (cell_at h2 8).trans rfl)
          have SD : Hid (∀ W ds, Gt G P s5 tl5 4 64 (ds ++ [blkC D mm.cells 51, msC (.slice (some ⟨ga, 0, none⟩) 1 c5) [mm], inC w]) W → W.cell? ⟨D, 2, none⟩ = some (.int .i64 mm.t) ∧ W.cell? ⟨D, 8, none⟩ = some (.int .i64 mm.q) ∧ W.cell? ⟨D, 4, none⟩ = some (.int .i64 mm.n)) := hid (fun W ds h => by
            have h2 : (blkC D mm.cells 51).holds W := (h.rest.mem (c := blkC D mm.cells 51) (by simp)).2.1
            exact ⟨(cell_at h2 2).trans rfl, (cell_at h2 8).trans rfl, (cell_at h2 4).trans rfl⟩)
          have S0 : Hid (∀ W ds, Gt G P s5 tl5 4 64 (ds ++ [blkC D mm.cells 51, msC (.slice (some ⟨ga, 0, none⟩) 1 c5) [mm], inC w]) W → W.cell? ⟨D, 0, none⟩ = some (.int .i64 mm.k)) := hid (fun W ds h => by
            have h2 : (blkC D mm.cells 51).holds W := (h.rest.mem (c := blkC D mm.cells 51) (by simp)).2.1
            exact (cell_at h2 0).trans rfl)
          have c8 := SB.out _ [] G7.out
          have G8 := hid (G7.out.addBlk [.int .i64 0, .int .i64 0, .int .i64 0, .int .i64 0, .int .i64 0, .int .i64 0, .int .i64 0, .int .i64 0, .int .i64 0, .bool false, .int .i64 0, .string ⟨#[]⟩, .string ⟨#[]⟩, .int .i64 0, .int .i64 0, .int .i64 0, .int .i64 0, .slice none 0 0, .slice none 0 0, .int .i64 0, .int .i64 0, .slice none 0 0, .slice none 0 0] 51)
          obtain ⟨M, hMM⟩ : ∃ M, Hid (M = w7.heap.size) := ⟨_, hid rfl⟩
          rw [← hMM.out] at G8
          have HB8 := hid G8.out.rest.1.2.1
          have G9 := hid (G8.out.setRow (vs' := (rpR 2 0 1 mm.q).cells))
          have ZS2 : Hid ((#[.int .i64 0, .int .i64 0, .int .i64 0, .int .i64 0, .int .i64 0, .int .i64 0, .int .i64 0, .int .i64 0, .int .i64 0, .bool false, .int .i64 0, .string ⟨#[]⟩, .string ⟨#[]⟩, .int .i64 0, .int .i64 0, .int .i64 0, .int .i64 0, .slice none 0 0, .slice none 0 0, .int .i64 0, .int .i64 0, .slice none 0 0, .slice none 0 0] : Array Value).size = (rpR 2 0 1 mm.q).cells.toArray.size) := hid rfl
          clear G6 HB6 ZS P0 SA SB hDD
          go_upto_region 15 with (first
            | (refine wpList_build rfl 51 _ rfl (by kernel_rfl) ?_)
            | (simp only [← hMM.out]; refine wpList_store_row rfl 51 _ _ rfl M (rpR 2 0 1 mm.q).cells.toArray rfl (by kernel_rfl) 51 _ HB8.out (J51.out (rpR 2 0 1 mm.q)) ZS2.out (O51.out (rpR 2 0 1 mm.q)) ?_))
          generalize World.setRow _ _ _ = w9 at *
          clear c8 G8 HB8 hMM
          have SC : Hid (∀ W ds, Gt G P s5 tl5 4 64 (ds ++ [blkC M (RM mm).cells 51, blkC D mm.cells 51, msC (.slice (some ⟨ga, 0, none⟩) 1 c5) [mm], inC w]) W → W.rangeAt M 0 (RM mm).cells) := hid (fun W ds h => blk_rng (h.rest.mem (c := blkC M (RM mm).cells 51) (by simp)).2.1)
          have c0 := S0.out _ [blkC M (rpR 2 0 1 mm.q).cells 51] G9.out
          rcases B5.out.what with hB | hB
          · have hk1 := hB.1
            have eR : RM mm = rpR 2 0 1 mm.q := by unfold RM; rw [hk1, if_neg (by decide)]
            rw [hk1] at c0
            rw [← eR] at G9
            clear hB hk1 eR SD S0 ZS2
            go_upto_region 17 with fail
            have HM17 := hid (SC.out _ [] G9.out)
            have ST17 := hid (ST.out _ [blkC M (RM mm).cells 51, blkC D mm.cells 51, msC (.slice (some ⟨ga, 0, none⟩) 1 c5) [mm]] G9.out)
            clear G9 SC ST
            go_wp2_with (first
              | (refine wpList_load_mid rfl 51 _ rfl M 0 rfl (RM mm).cells _ HM17.out Tryz.underlying51 rfl (I51.out (RM mm)) ?_)
              | (go_at_call 20; refine ST17.out.mono ?_; rintro e w11 ⟨a11, c11, s11, tl11, rfl, hI11, hT11, hl11, hG11⟩; have T11 := hid (And.intro hI11 hT11); have L11 := hid hl11; have G11 := hid (Gt.dropL (L := [blkC M (RM mm).cells 51, blkC D mm.cells 51, msC (.slice (some ⟨ga, 0, none⟩) 1 c5) [mm]]) hG11); clear hI11 hT11 hl11 hG11))
            refine ⟨⟨1, a11, c11, s11, tl11, [], rfl, rfl, Nat.le_refl _, hid (Or.inl ⟨rfl, T11.out⟩), hid (by have := L11.out; have := L5.out; omega), G11.out⟩, ?_⟩
            simp [intOf]
          · have hk1 := hB.1
            have eR : RM mm = tpR mm.t mm.n mm.q := by unfold RM; rw [hk1, if_pos rfl]
            rw [hk1] at c0
            obtain ⟨d2, d8, d4⟩ := SD.out _ [blkC M (rpR 2 0 1 mm.q).cells 51] G9.out
            have HB9 := hid G9.out.rest.1.2.1
            have GX := hid (G9.out.setRow (vs' := (tpR mm.t mm.n mm.q).cells))
            have ZX : Hid ((rpR 2 0 1 mm.q).cells.toArray.size = (tpR mm.t mm.n mm.q).cells.toArray.size) := hid rfl
            clear hB hk1 S0 ZS2 SD
            go_upto_region 17 with (first
              | (refine wpList_build rfl 51 _ rfl (by kernel_rfl) ?_)
              | (refine wpList_store_row rfl 51 _ _ rfl M (tpR mm.t mm.n mm.q).cells.toArray rfl (by kernel_rfl) 51 _ HB9.out (J51.out (tpR mm.t mm.n mm.q)) ZX.out (O51.out (tpR mm.t mm.n mm.q)) ?_))
            generalize World.setRow _ _ _ = wx at *
            rw [← eR] at GX
            clear c0 d2 d8 d4 HB9 G9 ZX eR
            have HM17 := hid (SC.out _ [] GX.out)
            have ST17 := hid (ST.out _ [blkC M (RM mm).cells 51, blkC D mm.cells 51, msC (.slice (some ⟨ga, 0, none⟩) 1 c5) [mm]] GX.out)
            clear GX SC ST
            go_wp2_with (first
              | (refine wpList_load_mid rfl 51 _ rfl M 0 rfl (RM mm).cells _ HM17.out Tryz.underlying51 rfl (I51.out (RM mm)) ?_)
              | (go_at_call 20; refine ST17.out.mono ?_; rintro e w11 ⟨a11, c11, s11, tl11, rfl, hI11, hT11, hl11, hG11⟩; have T11 := hid (And.intro hI11 hT11); have L11 := hid hl11; have G11 := hid (Gt.dropL (L := [blkC M (RM mm).cells 51, blkC D mm.cells 51, msC (.slice (some ⟨ga, 0, none⟩) 1 c5) [mm]]) hG11); clear hI11 hT11 hl11 hG11))
            refine ⟨⟨1, a11, c11, s11, tl11, [], rfl, rfl, Nat.le_refl _, hid (Or.inl ⟨rfl, T11.out⟩), hid (by have := L11.out; have := L5.out; omega), G11.out⟩, ?_⟩
            simp [intOf]

    · have hkn : k = n := by omega
      subst hkn
      have e1 : ¬ ((k : Int) < (k : Int)) := by omega
      have OU := hid (Out_gt HG.out)
      have ew1 : (s.ws.length : Int) = 0 := by rw [HI.out.ws]; rfl
      have ew2 : wtN s = 0 := by unfold wtN; rw [HI.out.lg, HI.out.tx]; rfl
      have EW := hid (And.intro ew1 ew2)
      clear RD HS hlt ew1 ew2 HD HT HF HE I51 J51 Z51 O51
      go_wp2_with fail
      refine OU.out.mono ?_
      rintro e w4 ⟨vo, rfl, hG4⟩
      obtain ⟨ao, co, rfl⟩ := owns_form hG4.rest.1.2.1
      have WA := hid (Waits_gt hG4)
      rw [EW.out.1, EW.out.2] at WA
      rw [cellsB_length] at WA ⊢
      clear hG4 OU
      go_wp2_with fail
      refine WA.out.mono ?_
      rintro e w5 ⟨rfl, hG5⟩
      have R5 : Hid (Reads w5 (.slice ao tl.length co) tl) := hid (reads_own hG5.rest)
      have B5 : Hid (Below w.heap.size w w5) := hid (hG5.rest.tail.into (by simp))
      obtain ⟨m5, hm5⟩ : ∃ m, Hid (m = tl.length) := ⟨_, hid rfl⟩
      rw [← hm5.out] at R5 ⊢
      have T5 : Hid (Told 0 k tl ∧ m5 ≤ 10000000000000) := hid ⟨HTL.out.1, by have := HTL.out.2; have := hm5.out; omega⟩
      clear hG5 WA HG HI HTL EW hk
      go_wp2
      go_loopw [14, 11] (fun u14 u11 wr => ∃ (a m : Nat) (rest : List UInt8) (ao : Option Addr) (co : Nat), u14 = .int .i64 (a : Int) ∧ u11 = .slice ao m co ∧ m ≤ 10000000000000 ∧ wr = w5 ∧ Hid (m = rest.length) ∧ Hid (Told a k rest) ∧ Hid (Reads w5 (.slice ao m co) rest)) (fun _ u11 _ => slLen u11)
      case atStart => exact ⟨0, m5, tl, ao, co, rfl, rfl, T5.out.2, rfl, hm5, hid T5.out.1, R5⟩
      case round =>
        clear T5 R5 hm5
        obtain ⟨a, m, rest, ao, co, rfl, rfl, hmb, rfl, HM, HTo, HRe⟩ := hrel
        by_cases hm0 : m = 0
        · subst hm0
          clear HM HTo HRe
          go_wp2
          go_ret
          exact ⟨rfl, B5.out⟩
        · obtain ⟨u, d, e, more, hau, huk, hd1, hde, hem, hmore, FD, F32, FE, F10⟩ := HTo.out.parts (by intro h; rw [h] at HM; exact hm0 HM.out)
          obtain ⟨g, o, rfl, _⟩ := reads_byte HRe.out F10
          have hco : m ≤ co := by obtain ⟨_, _, eq, hc, _⟩ := HRe.out; simp only [Value.slice.injEq] at eq; rw [← HM.out] at hc; omega
          rw [← HM.out] at hem
          have CB : Hid (∀ j b, rest[j]? = some b → wr.cell? ⟨g, o + j, none⟩ = some (.int .u8 (b.toNat : Int))) := hid (fun j b hb => by
            obtain ⟨g', o', e', hc⟩ := reads_byte HRe.out hb
            simp only [Option.some.injEq, Addr.mk.injEq, and_true] at e'
            obtain ⟨rfl, rfl⟩ := e'
            exact hc)
          have RM2 : Hid (Reads wr (.slice (if co = e + 1 then some ⟨g, o, none⟩ else some ⟨g, o + (e + 1), none⟩) (m - (e + 1)) (co - (e + 1))) more ∧ Told u k more ∧ m - (e + 1) = more.length) := hid ⟨by rw [← hmore.1]; exact reads_drop HRe.out hem, hmore.2, by rw [← hmore.1, List.length_drop, HM.out]⟩
          have F10' := hid (CB.out _ _ F10)
          have F32' := hid (CB.out _ _ F32)
          have FE' : Hid (∀ j, j < e → ∃ z : Int, wr.cell? ⟨g, o + j, none⟩ = some (.int .u8 z) ∧ z ≠ 10) := hid (fun j hj => by
            obtain ⟨b, hb, hne⟩ := FE j hj
            refine ⟨_, CB.out _ _ hb, fun h => hne ?_⟩
            apply UInt8.toNat_inj.1
            have : (10 : UInt8).toNat = 10 := rfl
            omega)
          obtain ⟨V, hV0, hVd, hVs⟩ := FD
          have FD' : Hid (∀ j, j < d → ∃ z : Int, wr.cell? ⟨g, o + j, none⟩ = some (.int .u8 z) ∧ 48 ≤ z ∧ z ≤ 57 ∧ ((V (j + 1) : Nat) : Int) = 10 * (V j : Int) + (z - 48) ∧ V j ≤ u) := hid (fun j hj => by
            obtain ⟨b, hb, h1, h2, h3, h4⟩ := hVs j hj
            exact ⟨_, CB.out _ _ hb, by omega, by omega, by omega, h4⟩)
          have HV0 : Hid (V 0 = 0 ∧ V d = u) := hid ⟨hV0, hVd⟩
          clear CB hmore F10 F32 FE hVs HRe HTo HM hV0 hVd
          have hm1 : (0 : Int) < (m : Int) := by omega
          go_wp2
          go_loopw [15, 16] (fun u15 u16 wr' => ∃ j : Nat, u15 = .int .i64 ((V j : Nat) : Int) ∧ u16 = .int .i64 (j : Int) ∧ j ≤ d ∧ wr' = wr) (fun _ u16 _ => d + 1 - (intOf u16).toNat)
          case atStart => exact ⟨0, by rw [HV0.out.1]; rfl, rfl, Nat.zero_le _, rfl⟩
          case round =>
            obtain ⟨j, rfl, rfl, hj, rfl⟩ := hrel
            have hjm : (j : Int) < (m : Int) := by omega
            by_cases hlt : j < d
            · obtain ⟨z, hz, z0, z1, hs, hle⟩ := FD'.out j hlt
              have hv : ((V j : Nat) : Int) ≤ 10000000 := by omega
              generalize ((V j : Nat) : Int) = vj at *
              have wa : IntKind.i64.wrap (10 * vj) = 10 * vj := by rw [IntKind.wrap_i64]; omega
              have wb : IntKind.u8.wrap (z - 48) = z - 48 := by rw [IntKind.wrap_u8]; omega
              have wc : IntKind.i64.wrap (z - 48) = z - 48 := by rw [IntKind.wrap_i64]; omega
              have wd : IntKind.i64.wrap (10 * vj + (z - 48)) = 10 * vj + (z - 48) := by rw [IntKind.wrap_i64]; omega
              have we : IntKind.i64.wrap ((j : Int) + 1) = ((j + 1 : Nat) : Int) := by rw [IntKind.wrap_i64]; omega
              have z0' : z ≥ 48 := z0
              go_wp2
              refine ⟨⟨j + 1, congrArg (Value.int .i64) hs.symm, rfl, hlt, trivial⟩, ?_⟩
              simp only [intOf]; omega
            · have hjd : j = d := by omega
              subst hjd
              have f32 := F32'.out
              have e32 : (UInt8.toNat 32 : Int) = 32 := rfl
              rw [e32] at f32
              have hV := HV0.out.2
              rw [hV]
              have g1 : ((j : Int) == 0) = false := by rw [beq_eq_false_iff_ne]; omega
              have g2 : ¬ ((u : Int) ≤ (a : Int)) := by omega
              have g3 : ¬ ((k : Int) < (u : Int)) := by omega
              have g3' : ¬ ((u : Int) > (k : Int)) := by omega
              clear FD' e32 hlt
              go_wp2
              go_loopw [17] (fun u17 wr' => ∃ i : Nat, u17 = .int .i64 (i : Int) ∧ i ≤ e ∧ wr' = wr) (fun u17 _ => e + 1 - (intOf u17).toNat)
              case atStart => exact ⟨0, rfl, Nat.zero_le _, rfl⟩
              case round =>
                obtain ⟨i, rfl, hi, rfl⟩ := hrel
                have him : (i : Int) < (m : Int) := by omega
                have wi : IntKind.i64.wrap ((i : Int) + 1) = ((i + 1 : Nat) : Int) := by rw [IntKind.wrap_i64]; omega
                by_cases hie : i < e
                · obtain ⟨z, hz, hne⟩ := FE'.out i hie
                  have hzb : (z == 10) = false := by rw [beq_eq_false_iff_ne]; exact hne
                  go_wp2
                  refine ⟨⟨i + 1, rfl, hie, trivial⟩, ?_⟩
                  simp only [intOf]; omega
                · have hiee : i = e := by omega
                  subst hiee
                  have f10 := F10'.out
                  have e10 : (UInt8.toNat 10 : Int) = 10 := rfl
                  rw [e10] at f10
                  have gm : ((i : Int) == (m : Int)) = false := by rw [beq_eq_false_iff_ne]; omega
                  have hcast : ((i + 1 : Nat) : Int) = (i : Int) + 1 := by omega
                  clear FE' e10 hie
                  go_wp2
                  refine ⟨⟨u, m - (i + 1), more, _, _, rfl, rfl, by omega, trivial, hid RM2.out.2.2, hid RM2.out.2.1, hid RM2.out.1⟩, ?_⟩
                  simp only [slLen]; omega

end Go.Proofs.YtdhkdniddjnigaaGreatDoor
