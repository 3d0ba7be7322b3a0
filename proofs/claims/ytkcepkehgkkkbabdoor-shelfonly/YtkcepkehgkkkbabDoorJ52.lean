import Derived.Test.YtkcepkehgkkkbabDoorJ51
import Derived.Test.YtkcepkehgkkkbabDoorDoC
namespace Go.Proofs.YtkcepkehgkkkbabDoor
open Go.RowKit
set_option linter.unusedVariables false

theorem Tryd.info43 : (Tryd.prog.info? 43).map (fun i => (i.zero, i.size, i.bytes)) = some (some (.slice none 0 0), 1, 24) := by kernel_rfl
theorem Tryd.und26 : Tryd.prog.underlying 26 = some (.slice 43) := by kernel_rfl

/-- Lists of bytes, each of its own. -/
abbrev BL := List (Value × List UInt8)
def blC (ls : BL) : List Comp := ls.map fun p => ownC 5 p.1 (cellsB p.2)
/-- A list of such lists. -/
def slsL (v : Value) (ls : BL) : List Comp := ownC 43 v (ls.map Prod.fst) :: blC ls

theorem All.addMadeL {cs : List Comp} {w : World} (h : All cs w) : All (ownC 43 (.slice (some ⟨w.heap.size, 0, none⟩) 0 0) [] :: cs) (w.alloc (.cells #[] 43)) := by
  refine h.addOwn (ba w _) ?_
  have := World.ownsRow_made (base := w.heap.size) (e := 43) (size := 1) w #[] 0 (Nat.le_refl _) (by unfold maxLen; omega) rfl
  exact this
theorem permA {o : Comp} {bl sh cs : List Comp} : (o :: (bl ++ (sh ++ cs))).Perm (sh ++ (o :: (bl ++ cs))) := by
  have := List.perm_append_comm_assoc (o :: bl) sh cs
  simpa using this
theorem permB {x o : Comp} {bl sh cs : List Comp} : (x :: (sh ++ (o :: (bl ++ cs)))).Perm (o :: ((bl ++ [x]) ++ (sh ++ cs))) := by
  refine (List.Perm.cons x permA.symm).trans ?_
  refine (List.Perm.swap _ _ _).trans (List.Perm.cons o ?_)
  have := (List.perm_middle (a := x) (l₁ := bl) (l₂ := sh ++ cs)).symm
  simpa using this

set_option maxHeartbeats 1600000 in
set_option maxRecDepth 1000000 in
theorem slots_any {N P : Nat} {S : St} (hS : OkS N S) {cs : List Comp} {w : World} (h : All (shL P S ++ cs) w) :
    Calls Tryd.prog 7 #[.pointer (some ⟨P, 0, none⟩)] w fun e w' => ∃ so sc ls, e = .returned (.slice so 8 sc) ∧ ls.map Prod.snd = S.map slB ∧ All (slsL (.slice so 8 sc) ls ++ (shL P S ++ cs)) w' := by
  have A0 := hid h.addMadeL
  have HS := hid hS
  obtain ⟨i0, hi, hz0, hz1, hz2⟩ := info_parts Tryd.info43
  clear h hS
  go_enter Tryd.func7, Tryd.ntmps7
  go_wp2
  go_loopw [3, 4] (fun vv iv wr => ∃ (k : Nat) (so : Option Addr) (sc : Nat) (ls : BL), vv = .slice so k sc ∧ iv = .int .i64 (k : Int) ∧ k ≤ 8 ∧ Hid (ls.length = k) ∧ Hid (ls.map Prod.snd = (S.take k).map slB) ∧ Hid (All (ownC 43 (.slice so k sc) (ls.map Prod.fst) :: (blC ls ++ (shL P S ++ cs))) wr)) (fun vv iv _ => 8 - (intOf iv).toNat)
  case atStart => exact ⟨0, _, 0, [], rfl, rfl, by omega, hid rfl, hid (by simp), A0⟩
  case round =>
    obtain ⟨k, so, sc, ls, rfl, rfl, hk, HL, HM, AR⟩ := hrel
    clear A0
    by_cases hlt : k < 8
    · obtain ⟨s, hs⟩ : ∃ s, S[k]? = some s := ⟨_, List.getElem?_eq_getElem (by have := HS.out.len; omega)⟩
      have HT : Hid ((S.take (k + 1)).map slB = (S.take k).map slB ++ [slB s]) := by
        obtain ⟨h1, rfl⟩ := List.getElem?_eq_some_iff.1 hs
        show _ = _
        rw [List.take_succ_eq_append_getElem h1, List.map_append]
        rfl
      have HQ := hid hs
      clear hs
      go_wp2_with fail
      refine (Slot_st HS.out HQ.out (AR.out.perm permA)).mono ?_
      rintro e w1 ⟨ua, uc, rfl, A1⟩
      have A1 := hid (A1.perm permB)
      clear AR
      generalize hU : (slB s).length = un at A1 ⊢
      have hU := hid hU
      have hrow : w1.ownsRow 0 43 1 (.slice so k sc) k (ls.map Prod.fst) := by
        have h1 : w1.ownsRow 0 43 1 (.slice so k sc) (ls.map Prod.fst).length (ls.map Prod.fst) := A1.out.1.2.1
        rw [List.length_map, HL.out] at h1
        exact h1
      go_wp2_with (at_builtin; refine wpList_append_own_at _ rfl (.tmp 14) (.tmp 16) 26 rfl 0 43 i0 (.slice none 0 0) 1 24 Tryd.und26 hi hz0 hz1 hz2 rfl (by decide) _ _ _ rfl (hrow.alloc _) ⟨w1.heap.size, 0, none⟩ 1 1 [.slice ua un uc] rfl rfl (cell_one_new _ _ _) (fun u hu => by simp at hu; subst hu; rfl) (by unfold maxLen; omega) (by omega) (by omega) ?_)
      intro v' w3 hown hgr _ hat
      have A4 := (A1.out.alloc (.cells #[.slice ua un uc] 43)).ownGrow (vs' := (ls ++ [(Value.slice ua un uc, slB s)]).map Prod.fst) (base := 0) (v' := v') (by
        rw [List.length_map, List.length_append, HL.out]
        simpa using hown) hgr (by simpa using hat)
      obtain ⟨so', sc', rfl⟩ := owns_form hown
      have A4 := hid A4
      clear hown hgr hat A1 hrow
      go_wp2
      go_roundw
      case rel =>
        refine ⟨k + 1, so', sc', ls ++ [(Value.slice ua un uc, slB s)], rfl, by go_num, by omega, hid (by rw [List.length_append, HL.out]; rfl), hid ?_, ?_⟩
        · rw [List.map_append, HM.out, HT.out]
          rfl
        · have e : blC (ls ++ [(Value.slice ua un uc, slB s)]) = blC ls ++ [ownC 5 (.slice ua un uc) (cellsB (slB s))] := by simp [blC]
          rw [e]
          exact A4
      case measure => simp [intOf]; omega
    · obtain rfl : k = 8 := by omega
      rw [List.take_of_length_le (by have := HS.out.len; omega)] at HM
      go_wp2
      go_ret
      exact ⟨so, sc, ls, rfl, HM.out, AR.out⟩
end Go.Proofs.YtkcepkehgkkkbabDoor

namespace Go.Proofs.YtkcepkehgkkkbabDoor
open Go.RowKit
set_option linter.unusedVariables false

theorem getD_toNat_inj {l l' : List UInt8} {k : Nat} (h : ((l.getD k 0).toNat : Int) = ((l'.getD k 0).toNat : Int)) : l.getD k 0 = l'.getD k 0 := by
  have : (l.getD k 0).toNat = (l'.getD k 0).toNat := by omega
  exact UInt8.toNat_inj.1 this
theorem ext_getD {l l' : List UInt8} (hl : l.length = l'.length) (h : ∀ j, j < l.length → l.getD j 0 = l'.getD j 0) : l = l' := by
  refine List.ext_getElem hl fun j h1 h2 => ?_
  have := h j h1
  rw [List.getD_eq_getElem?_getD, List.getD_eq_getElem?_getD, List.getElem?_eq_getElem h1, List.getElem?_eq_getElem h2] at this
  simpa using this

set_option maxHeartbeats 1600000 in
set_option maxRecDepth 1000000 in
/-- Two lists compared. -/
theorem same_dec {w : World} {s t : Value} {l l' : List UInt8} (hs : Reads w s l) (ht : Reads w t l') (hlen : l.length ≤ 140737488355328) :
    Calls Tryd.prog 15 #[s, t] w fun e w' => e = .returned (.bool (decide (l = l'))) ∧ ∃ q, w' = w.drewN q := by
  by_cases hll : l.length = l'.length
  · obtain ⟨ao, c, hf⟩ := hs.form
    obtain ⟨ao', c', hf'⟩ := ht.form
    rw [← hll] at hf'
    subst hf hf'
    have HS := hid hs
    have HT := hid ht
    have HLL := hid hll
    clear hs ht hll
    go_enter Tryd.func15, Tryd.ntmps15
    go_wp2
    go_loopw [5] (fun iv wr => ∃ (k q : Nat), k ≤ l.length ∧ iv = .int .i64 (k : Int) ∧ Hid (∀ j, j < k → l.getD j 0 = l'.getD j 0) ∧ wr = w.drewN q) (fun iv _ => l.length - (intOf iv).toNat)
    case atStart => exact ⟨0, 0, by omega, rfl, hid (fun j hj => absurd hj (Nat.not_lt_zero _)), rfl⟩
    case round =>
      obtain ⟨k, q, hk, rfl, HE, rfl⟩ := hrel
      by_cases hlt : k < l.length
      · obtain ⟨g, o, rfl, h1⟩ := HS.out.at_u8 k hlt
        obtain ⟨g', o', e', h2⟩ := HT.out.at_u8 k (by have := HLL.out; omega)
        subst e'
        by_cases hx : l.getD k 0 = l'.getD k 0
        · have HX := hid hx
          rw [← hx] at h2
          clear hx
          generalize (l.getD k 0).toNat = x at h1 h2
          have hb : ((x : Int) != (x : Int)) = false := by simp
          go_wp2
          go_region
          go_wp2
          go_roundw
          case rel =>
            refine ⟨k + 1, q + 1, by omega, by go_num, hid (fun j hj => ?_), by simp⟩
            by_cases e : j = k
            · subst e; exact HX.out
            · exact HE.out j (by omega)
          case measure => simp [intOf]; omega
        · have HX := hid hx
          have hb : (((l.getD k 0).toNat : Int) != ((l'.getD k 0).toNat : Int)) = true := by
            simp only [bne_iff_ne, ne_eq]
            exact fun h => hx (getD_toNat_inj h)
          clear hx
          generalize (l.getD k 0).toNat = x at h1 hb
          generalize (l'.getD k 0).toNat = y at h2 hb
          go_wp2
          go_region
          go_wp2
          go_ret
          refine ⟨?_, q + 1, by simp⟩
          have : ¬ l = l' := fun e => HX.out (by rw [e])
          rw [decide_eq_false this]
          rfl
      · have hke : k = l.length := by omega
        have hEq : l = l' := ext_getD HLL.out (fun j hj => HE.out j (by omega))
        have HD := hid (show decide (l = l') = true from decide_eq_true hEq)
        clear hEq hke
        go_wp2
        go_ret
        exact ⟨by rw [HD.out]; rfl, _, rfl⟩
  · obtain ⟨ao, c, hf⟩ := hs.form
    obtain ⟨ao', c', hf'⟩ := ht.form
    subst hf hf'
    have hD : decide (l = l') = false := decide_eq_false (fun e => hll (by rw [e]))
    rw [hD]
    have hb : ((l.length : Int) != (l'.length : Int)) = true := by
      simp only [bne_iff_ne, ne_eq]
      omega
    clear hs ht hD
    generalize l.length = a at *
    generalize l'.length = b at *
    go_enter Tryd.func15, Tryd.ntmps15
    go_wp2
    go_ret
    exact ⟨rfl, 0, rfl⟩
end Go.Proofs.YtkcepkehgkkkbabDoor

namespace Go.Proofs.YtkcepkehgkkkbabDoor
open Go.RowKit
set_option linter.unusedVariables false

/-- A list of lists of bytes, as it is read. -/
def ReadsL (w : World) (v : Value) (L : List (List UInt8)) : Prop := ∃ ao c, v = .slice ao L.length c ∧ L.length ≤ c ∧ ∀ j (h : j < L.length), ∃ g u, ao = some ⟨g, 0, none⟩ ∧ w.cell? ⟨g, j, none⟩ = some u ∧ g < w.heap.size ∧ Reads w u L[j]
theorem ReadsL.below {w w' : World} {v : Value} {L : List (List UInt8)} (h : ReadsL w v L) (hb : Below w.heap.size w w') : ReadsL w' v L := by
  obtain ⟨ao, c, rfl, hc, hr⟩ := h
  refine ⟨ao, c, rfl, hc, fun j hj => ?_⟩
  obtain ⟨g, u, e, h1, h2, h3⟩ := hr j hj
  obtain ⟨_, _, _, b4, b5⟩ := hb
  have h4 : w'.heap[g]? = w.heap[g]? := b5 g h2
  refine ⟨g, u, e, ?_, Nat.lt_of_lt_of_le h2 b4, h3.kept b4 (fun k hk => b5 k (h3.block k hk))⟩
  rw [← h1]
  simp only [World.cell?, h4]
theorem readsL_of {w : World} {so : Option Addr} {n sc : Nat} {ls : BL} {cs : List Comp} (h : All (slsL (.slice so n sc) ls ++ cs) w) : ReadsL w (.slice so n sc) (ls.map Prod.snd) := by
  have hrow : w.ownsRow 0 43 1 (.slice so n sc) (ls.map Prod.fst).length (ls.map Prod.fst) := (h.mem (c := ownC 43 (.slice so n sc) (ls.map Prod.fst)) (by simp [slsL])).2.1
  have hl := owns_len hrow
  rw [List.length_map] at hl
  refine ⟨so, sc, by rw [List.length_map, hl.1], by rw [List.length_map]; omega, fun j hj => ?_⟩
  rw [List.length_map] at hj
  obtain ⟨g, e, hc, _⟩ := owns_at hrow (k := j) (u := ls[j].1) (by rw [List.getElem?_map, List.getElem?_eq_getElem hj]; rfl)
  have hg : g < w.heap.size := (h.mem (c := ownC 43 (.slice so n sc) (ls.map Prod.fst)) (by simp [slsL])).2.2 g (by rw [e]; simp [ownC, Value.ownBlock])
  refine ⟨g, ls[j].1, e, hc, hg, ?_⟩
  have hp := (h.mem (c := ownC 5 ls[j].1 (cellsB ls[j].2)) (by
    refine List.mem_append_left _ (List.mem_cons_of_mem _ ?_)
    exact List.mem_map.2 ⟨ls[j], List.getElem_mem hj, rfl⟩)).2.1
  have hr : w.ownsRow 0 5 1 ls[j].1 (cellsB ls[j].2).length (cellsB ls[j].2) := hp
  have hcl : (cellsB ls[j].2).length = ls[j].2.length := by simp [cellsB]
  rw [hcl] at hr
  simpa using Reads.of_owns hr

set_option maxHeartbeats 1600000 in
set_option maxRecDepth 1000000 in
/-- Slots that are alike. -/
theorem sameSlots_true {w : World} {v v' : Value} {L : List (List UInt8)} (h : ReadsL w v L) (h' : ReadsL w v' L) (hs : ∀ l ∈ L, l.length ≤ 140737488355328) (hL : L.length ≤ 8) :
    Calls Tryd.prog 9 #[v, v'] w fun e w' => e = .returned (.bool true) ∧ Below w.heap.size w w' := by
  have H := hid h
  have H' := hid h'
  obtain ⟨ao, c, rfl, _, _⟩ := h
  obtain ⟨ao', c', rfl, _, _⟩ := h'
  have HB := hid hs
  clear hs
  go_enter Tryd.func9, Tryd.ntmps9
  go_wp2
  go_loopw [5] (fun iv wr => ∃ (k : Nat), k ≤ L.length ∧ iv = .int .i64 (k : Int) ∧ Hid (Below w.heap.size w wr)) (fun iv _ => L.length - (intOf iv).toNat)
  case atStart => exact ⟨0, by omega, rfl, hid (Below.refl _ _)⟩
  case round =>
    obtain ⟨k, hk, rfl, BR⟩ := hrel
    by_cases hlt : k < L.length
    · obtain ⟨x1, y1, ex, _, hx⟩ := H.out.below BR.out
      obtain ⟨x2, y2, ey, _, hy⟩ := H'.out.below BR.out
      cases ex
      cases ey
      obtain ⟨g, u, rfl, e1, _, R1⟩ := hx k hlt
      obtain ⟨g', u', rfl, e2, _, R2⟩ := hy k hlt
      have ST : Hid (∀ q, Calls Tryd.prog 15 #[u, u'] (wr.drewN q) fun e w' => e = .returned (.bool true) ∧ ∃ m, w' = (wr.drewN q).drewN m) := hid (fun q => by
        have hd := same_dec (R1.kept (bdN wr q).size (fun k hk => (bdN wr q).block k (R1.block k hk))) (R2.kept (bdN wr q).size (fun k hk => (bdN wr q).block k (R2.block k hk))) (HB.out _ (List.getElem_mem hlt))
        rw [decide_eq_true rfl] at hd
        exact hd)
      obtain ⟨ua, uc, rfl⟩ := R1.form
      obtain ⟨ua', uc', rfl⟩ := R2.form
      clear hx hy R1 R2
      generalize L[k].length = un at *
      have k1 : (0 : Int) ≤ (k : Int) := by omega
      have k2 : (k : Int) < (L.length : Int) := by omega
      go_wp2_with fail
      go_quiet (first | (go_at_call 15; exact Calls.quiet_of (ST.out _)))
      go_wp2
      go_roundw
      case rel => exact ⟨k + 1, by omega, by go_num, hid (BR.out.trans ((bdN wr nq).mono BR.out.size))⟩
      case measure => simp [intOf]; omega
    · go_wp2
      go_ret
      exact ⟨rfl, BR.out⟩
end Go.Proofs.YtkcepkehgkkkbabDoor

namespace Go.Proofs.YtkcepkehgkkkbabDoor
open Go.RowKit
set_option linter.unusedVariables false

/-- A kind that changes nothing. -/
def isQ (k : Int) : Bool := decide (6 ≤ k ∧ k ≤ 8)
set_option maxRecDepth 1000000 in
/-- Ask, of a query. -/
theorem Ask_any {N P : Nat} {S : St} (hS : OkS N S) (hN : N < 1152921504606846976) {cs : List Comp} {w : World} (ht : ∀ w', All (shL P S ++ cs) w' → Tab w') {k : Int} {nm tx : ByteArray} {n m : Int} (hk : chkA k nm.size tx.size n m = 0) (hq : isQ k = true) (h : All (shL P S ++ cs) w) :
    Calls Tryd.prog 8 #[.pointer (some ⟨P, 0, none⟩), opV k nm tx n m] w fun e w' => ∃ S' c x items j so sc, e = .returned (.tuple #[resV c x (.slice so (List.length items) sc), .int .i64 0]) ∧ Deed S nm tx n m k S' c x items j ∧ All (shL P S' ++ (ownC 9 (.slice so items.length sc) (txtV items) :: cs)) w' := by
  have T := hid (done_start h nm tx n m k)
  have HK := hid hk
  have HQ := hid hq
  have HS := hid hS
  have hT : Tab ((w.alloc (opB k nm tx n m)).alloc (.cells #[.int .i64 0, .int .i64 0, .slice none 0 0] 30)) := ht _ T.out.all.tail.tail
  have HT := hid hT
  clear h hk hT hq
  go_enter Tryd.func8, Tryd.ntmps8
  go_wp2_with fail
  refine (check_any HT.out k nm tx n m).mono ?_
  rw [HK.out]
  rintro e w2 ⟨rfl, B2⟩
  have T2 := hid (T.out.next B2)
  clear B2 T HT
  have o0 := T2.out.o0
  have o1 := T2.out.o1
  have o2 := T2.out.o2
  have o3 := T2.out.o3
  have o4 := T2.out.o4
  go_wp2_with fail
  refine (query_any k).mono ?_
  rw [show decide (6 ≤ k ∧ k ≤ 8) = true from HQ.out]
  rintro e w3 ⟨rfl, rfl⟩
  go_wp2_with fail
  refine (done_any HS.out hN HK.out T2.out.handed2).mono ?_
  rintro e w5 ⟨c, x, j, so, sn, sc, post, rfl, hG, A5⟩
  have A6 := hid (handed_back2 A5)
  have HG := hid hG
  clear A5 hG T2 o0 o1 o2 o3 o4
  have A7 := hid ((A6.out.setR (.int .i64 c) (.int .i64 x) (.slice so sn sc)).alloc (.cells #[.int .i64 c, .int .i64 x, .slice so sn sc] 30))
  have hR : w.heap.size + 1 < w5.heap.size := A6.out.1.2.2 _ (by simp [blkC])
  have r0 := A6.out.r0
  have r1 := A6.out.r1
  have r2 := A6.out.r2
  have g0 := A6.out.rf 0
  have g1 := A6.out.rf 1
  have g2 := A6.out.rf 2
  clear A6
  go_wp2
  generalize (((w5.setCell ⟨w.heap.size + 1, 0, none⟩ (.int .i64 c)).setCell ⟨w.heap.size + 1, 1, none⟩ (.int .i64 x)).setCell ⟨w.heap.size + 1, 2, none⟩ (.slice so sn sc)).alloc (.cells #[.int .i64 c, .int .i64 x, .slice so sn sc] 30) = w6 at A7 ⊢
  clear r0 r1 r2
  have r0 := A7.out.r0
  have r1 := A7.out.r1
  have r2 := A7.out.r2
  refine bodyPost_ret (v := .tuple #[resV c x (.slice so sn sc), .int .i64 0]) (by simp only [results, Tryd.f8]; go_simp) rfl ?_
  obtain ⟨S', items, so', sc', hv, rfl, hD⟩ := HG.out
  have A8 : All (shL P S' ++ (ownC 9 (.slice so sn sc) (txtV items) :: cs)) w6 := by simpa using A7.out.tail.tail
  rw [hv] at A8 ⊢
  exact ⟨S', c, x, items, j, so', sc', rfl, hD, A8⟩
set_option maxRecDepth 1000000 in
/-- Ask, of an op that may not be. -/
theorem Ask_bad {P : Nat} {cs : List Comp} {w : World} (hT : Tab w) {k : Int} {nm tx : ByteArray} {n m : Int} (hk : chkA k nm.size tx.size n m ≠ 0) (h : All cs w) :
    Calls Tryd.prog 8 #[.pointer (some ⟨P, 0, none⟩), opV k nm tx n m] w fun e w' => e = .returned (.tuple #[resV 0 0 (.slice none 0 0), .int .i64 (chkA k nm.size tx.size n m)]) ∧ All cs w' := by
  have H1 := hid ((h.alloc (opB k nm tx n m)).addBlk [.int .i64 0, .int .i64 0, .slice none 0 0] 30)
  have hsz : (w.alloc (opB k nm tx n m)).heap.size = w.heap.size + 1 := by simp
  rw [hsz] at H1
  have HK := hid hk
  have HT := hid (hT.below (b2 (ba w (opB k nm tx n m)) (ba (w.alloc (opB k nm tx n m)) (.cells [Value.int .i64 0, .int .i64 0, .slice none 0 0].toArray 30))))
  clear h hk hT hsz
  go_enter Tryd.func8, Tryd.ntmps8
  go_wp2_with fail
  refine (check_any HT.out k nm tx n m).mono ?_
  rintro e w2 ⟨rfl, B2⟩
  have H2 := hid (H1.out.later B2)
  have hne := HK.out
  clear B2 H1 HT HK
  generalize hck : chkA k nm.size tx.size n m = ck at hne ⊢
  have HCK := hid hck
  clear hck
  have e1 : (ck != 0) = true := by simpa using hne
  clear hne
  have r0 := H2.out.r0
  have r1 := H2.out.r1
  have r2 := H2.out.r2
  have g0 := H2.out.rf 0
  have g1 := H2.out.rf 1
  have g2 := H2.out.rf 2
  have AE := hid (H2.out.setR (.int .i64 0) (.int .i64 0) (.slice none 0 0))
  clear H2
  go_wp2
  generalize (((w2.setCell ⟨w.heap.size + 1, 0, none⟩ (.int .i64 0)).setCell ⟨w.heap.size + 1, 1, none⟩ (.int .i64 0)).setCell ⟨w.heap.size + 1, 2, none⟩ (.slice none 0 0)) = we at AE ⊢
  clear r0 r1 r2
  have r0 := AE.out.r0
  have r1 := AE.out.r1
  have r2 := AE.out.r2
  refine bodyPost_ret (v := .tuple #[resV 0 0 (.slice none 0 0), .int .i64 ck]) (by simp only [results, Tryd.f8]; go_simp) rfl ?_
  exact ⟨by rw [HCK.out], AE.out.tail⟩


set_option maxRecDepth 1000000 in
/-- Ask, of an op that changes something. -/
theorem Ask_not {P : Nat} {cs : List Comp} {w : World} (hT : Tab w) {k : Int} {nm tx : ByteArray} {n m : Int} (hk : chkA k nm.size tx.size n m = 0) (hq : isQ k = false) (h : All cs w) :
    Calls Tryd.prog 8 #[.pointer (some ⟨P, 0, none⟩), opV k nm tx n m] w fun e w' => e = .returned (.tuple #[resV 0 0 (.slice none 0 0), .int .i64 56]) ∧ All cs w' := by
  have T := hid (done_start (pre := []) (cs := cs) (by simpa using h) nm tx n m k)
  have HK := hid hk
  have HQ := hid hq
  have HT := hid (hT.below (b2 (ba w (opB k nm tx n m)) (ba (w.alloc (opB k nm tx n m)) (.cells #[Value.int .i64 0, .int .i64 0, .slice none 0 0] 30))))
  clear h hk hT hq
  go_enter Tryd.func8, Tryd.ntmps8
  go_wp2_with fail
  refine (check_any HT.out k nm tx n m).mono ?_
  rw [HK.out]
  rintro e w2 ⟨rfl, B2⟩
  have T2 := hid (T.out.next B2)
  clear B2 T HT
  have o0 := T2.out.o0
  go_wp2_with fail
  refine (query_any k).mono ?_
  rw [show decide (6 ≤ k ∧ k ≤ 8) = false from HQ.out]
  rintro e w3 ⟨rfl, rfl⟩
  have H2 := hid T2.out.all
  clear o0 T2
  have r0 := H2.out.r0
  have r1 := H2.out.r1
  have r2 := H2.out.r2
  have g0 := H2.out.rf 0
  have g1 := H2.out.rf 1
  have g2 := H2.out.rf 2
  have AE := hid (H2.out.setR (.int .i64 0) (.int .i64 0) (.slice none 0 0))
  clear H2
  go_wp2
  generalize (((w3.setCell ⟨w.heap.size + 1, 0, none⟩ (.int .i64 0)).setCell ⟨w.heap.size + 1, 1, none⟩ (.int .i64 0)).setCell ⟨w.heap.size + 1, 2, none⟩ (.slice none 0 0)) = we at AE ⊢
  clear r0 r1 r2
  have r0 := AE.out.r0
  have r1 := AE.out.r1
  have r2 := AE.out.r2
  refine bodyPost_ret (v := .tuple #[resV 0 0 (.slice none 0 0), .int .i64 56]) (by simp only [results, Tryd.f8]; go_simp) rfl ?_
  exact ⟨rfl, by simpa using AE.out.tail.tail⟩
end Go.Proofs.YtkcepkehgkkkbabDoor

namespace Go.Proofs.YtkcepkehgkkkbabDoor
open Go.RowKit
set_option linter.unusedVariables false

theorem own_of {P i : Nat} {S : St} {q : Qs} {cs : List Comp} {w : World} (h : All (shL P S ++ cs) w) (hs : S[i]? = some (some q)) : w.ownsMap Tryd.prog 9 rE q.b q.n q.D := (h.shOut hs).2.2.2.2.1.2.1
theorem slB_inj {N N' : Nat} {q q' : Qs} (ho : OkQ N q) (ho' : OkQ N' q') {w w' : World} (hm : w.ownsMap Tryd.prog 9 rE q.b q.n q.D) (hm' : w'.ownsMap Tryd.prog 9 rE q'.b q'.n q'.D) (h : slB (some q) = slB (some q')) : q.nm = q'.nm ∧ q.first = q'.first ∧ q.items = q'.items ∧ grS q.D = grS q'.D := by
  have a1 := ho.fin
  have a2 := ho'.fin
  have b1 := ho.gs
  have b2 := ho'.gs
  have c1 := grS_len hm
  have c2 := grS_len hm'
  exact slot_inj ho.nm16 ho'.nm16 (by omega) (by omega) ho.len ho'.len ho.small ho'.small (by omega) (by omega) (ho.okG hm) (ho'.okG hm') h
theorem slB_len {N P i : Nat} {S : St} (hS : OkS N S) {cs : List Comp} {w : World} (h : All (shL P S ++ cs) w) {s : Option Qs} (hs : S[i]? = some s) : (slB s).length ≤ 2197 := by
  cases s with
  | none => simp [slB]
  | some q =>
    have ho := hS.each i q hs
    have hm := own_of h hs
    have a1 := ho.fin
    have b1 := ho.gs
    have c1 := grS_len hm
    exact slot_len ho.nm16 (by omega) ho.len ho.small (by omega) (ho.okG hm)
theorem set_slots {S : St} {f i : Nat} {u s s' : Option Qs} (hne : ∀ s0, S[f]? = some s0 → slB s0 ≠ slB u) (hs : S[i]? = some s) (hs' : (S.set f u)[i]? = some s') : slB s = slB s' ↔ (i : Int) ≠ (f : Int) := by
  by_cases e : f = i
  · subst e
    have hf : f < S.length := (List.getElem?_eq_some_iff.1 hs).1
    rw [List.getElem?_set_self hf] at hs'
    cases hs'
    constructor
    · exact fun h => absurd h (hne s hs)
    · exact fun h => absurd rfl h
  · rw [List.getElem?_set_ne e, hs] at hs'
    cases hs'
    exact ⟨fun _ h => e (by omega), fun _ => rfl⟩
theorem same_slots {S : St} {i : Nat} {s s' : Option Qs} (hs : S[i]? = some s) (hs' : S[i]? = some s') : slB s = slB s' ↔ (i : Int) ≠ -1 := by
  rw [hs] at hs'
  cases hs'
  exact ⟨fun _ => by omega, fun _ => rfl⟩

/-- Just the slot that is told has changed. -/
theorem deed_slots {N N' P : Nat} {S S' : St} (hS : OkS N S) (hS' : OkS N' S') {cs cs' : List Comp} {w w' : World} (h : All (shL P S ++ cs) w) (h' : All (shL P S' ++ cs') w') {k : Int} {nm tx : ByteArray} {n m c x j : Int} {items : List ByteArray} (hD : Deed S nm tx n m k S' c x items j) {i : Nat} {s s' : Option Qs} (hs : S[i]? = some s) (hs' : S'[i]? = some s') : slB s = slB s' ↔ (i : Int) ≠ j := by
  cases hD with
  | none k hk hf => exact same_slots hs hs'
  | there hf => exact same_slots hs hs'
  | full hf hf2 => exact same_slots hs hs'
  | make f b h1 hf hs0 =>
    refine set_slots (fun s0 h0 => ?_) hs hs'
    rw [hs0] at h0
    cases h0
    have hf : f < S.length := (List.getElem?_eq_some_iff.1 hs0).1
    have ho := hS'.each f _ (List.getElem?_set_self hf)
    exact fun e => slot_pos ho.nm16 e.symm
  | drop i0 q h1 hs0 hn =>
    refine set_slots (fun s0 h0 => ?_) hs hs'
    rw [hs0] at h0
    cases h0
    exact slot_pos (hS.each i0 q hs0).nm16
  | pushFull i0 q h1 hs0 hn hf => exact same_slots hs hs'
  | push i0 q iv' h1 hs0 hn hl hf =>
    refine set_slots (fun s0 h0 => ?_) hs hs'
    rw [hs0] at h0
    cases h0
    have hf : i0 < S.length := (List.getElem?_eq_some_iff.1 hs0).1
    have e2 := List.getElem?_set_self (a := some (⟨q.nm, q.first, q.items ++ [tx], iv', q.b, q.n, q.D⟩ : Qs)) hf
    intro e
    have := (slB_inj (hS.each i0 q hs0) (hS'.each i0 _ e2) (own_of h hs0) (own_of h' e2) e).2.2.1
    have := congrArg List.length this
    simp at this
  | trimNone i0 q h1 hs0 hn hl => exact same_slots hs hs'
  | trim i0 q iv' D' d h1 hs0 hn hd h0' hl ht =>
    refine set_slots (fun s0 h0 => ?_) hs hs'
    rw [hs0] at h0
    cases h0
    have hf : i0 < S.length := (List.getElem?_eq_some_iff.1 hs0).1
    have e2 := List.getElem?_set_self (a := some (⟨q.nm, q.first + d, q.items.drop d, iv', q.b, q.n, D'⟩ : Qs)) hf
    intro e
    have := (slB_inj (hS.each i0 q hs0) (hS'.each i0 _ e2) (own_of h hs0) (own_of h' e2) e).2.1
    simp only at this
    omega
  | takeFull i0 q h1 hs0 hn hh h4 => exact same_slots hs hs'
  | takeEmpty i0 q h1 hs0 hn hh => exact same_slots hs hs'
  | take i0 q d item h1 hs0 hn hd hh =>
    refine set_slots (fun s0 h0 => ?_) hs hs'
    rw [hs0] at h0
    cases h0
    have hf : i0 < S.length := (List.getElem?_eq_some_iff.1 hs0).1
    have e2 := List.getElem?_set_self (a := some (⟨q.nm, q.first, q.items, q.iv, q.b, q.n + 1, q.D.put (.string tx.data.toList) (.lit (.int .i64 ((q.first : Int) + (d : Int) + 1)))⟩ : Qs)) hf
    intro e
    have hg := (slB_inj (hS.each i0 q hs0) (hS'.each i0 _ e2) (own_of h hs0) (own_of h' e2) e).2.2.2
    simp only at hg
    have hmap : Maps.IsMap q.D := (tidy_of h i0 q hs0).isMap
    have hkl : WideAt.IsKeyLit (.string tx.data.toList) := trivial
    have hv := leftD_put_same (D := q.D) (kl := .string tx.data.toList) hmap hkl .i64 ((q.first : Int) + (d : Int) + 1)
    have hm : ((tx.data.toList, (q.first : Int) + (d : Int) + 1) : Grp) ∈ grS (q.D.put (.string tx.data.toList) (.lit (.int .i64 ((q.first : Int) + (d : Int) + 1)))) := by
      exact (mem_grS (own_of h' e2)).2 ⟨Maps.has_put_same hmap hkl _, hv.symm⟩
    rw [← hg] at hm
    obtain ⟨m1, m2⟩ := (mem_grS (own_of h hs0)).1 hm
    simp only at m1 m2
    rcases hh with ⟨a, b⟩ | ⟨a, _, _⟩
    · omega
    · rw [a] at m1; cases m1
  | readNone i0 q h1 hs0 hn hl => exact same_slots hs hs'
  | read i0 q d h1 hs0 hn hd hl => exact same_slots hs hs'
  | count i0 q h1 hs0 hn => exact same_slots hs hs'
  | list => exact same_slots hs hs'
/-- Which slot is told. -/
theorem deed_range {N : Nat} {S S' : St} (hS : OkS N S) {k : Int} {nm tx : ByteArray} {n m c x j : Int} {items : List ByteArray} (hD : Deed S nm tx n m k S' c x items j) : -1 ≤ j ∧ j < 8 := by
  have key : ∀ (i : Nat) (s : Option Qs), S[i]? = some s → -1 ≤ (i : Int) ∧ (i : Int) < 8 := fun i s hs => by
    have h1 := (List.getElem?_eq_some_iff.1 hs).1
    have h2 := hS.len
    omega
  cases hD with
  | make f b h1 hf hs0 => exact key _ _ hs0
  | drop i0 q h1 hs0 hn => exact key _ _ hs0
  | push i0 q iv' h1 hs0 hn hl hf => exact key _ _ hs0
  | trim i0 q iv' D' d h1 hs0 hn hd h0' hl ht => exact key _ _ hs0
  | take i0 q d item h1 hs0 hn hd hh => exact key _ _ hs0
  | _ => omega

theorem nmsS_small {N : Nat} {S : St} (hS : OkS N S) : (nmsS (stV S)).length ≤ 8 ∧ ∀ t ∈ nmsS (stV S), t.size ≤ 64 := by
  refine ⟨?_, fun t ht => ?_⟩
  · have h1 := nms_len (stV S)
    have h2 := hS.len
    rw [nmsS_len]
    rw [stV_len] at h1
    omega
  · obtain ⟨y, hy, rfl⟩ := List.mem_map.1 ht
    have hy2 : y ∈ rawT (nms (stV S)) := (List.mergeSort_perm _ _).mem_iff.1 hy
    obtain ⟨z, hz, rfl⟩ := List.mem_map.1 hy2
    have hz2 := (List.mem_filter.1 hz).1
    obtain ⟨v, hv, rfl⟩ := List.mem_map.1 hz2
    obtain ⟨s, hs, rfl⟩ := List.mem_map.1 hv
    obtain ⟨i, hi⟩ := List.getElem?_of_mem hs
    have e : (strB (slV s).nm.data.toList).size = (slV s).nm.size := by
      show (slV s).nm.data.toList.toArray.size = _
      rw [List.size_toArray]
      exact str_len _
    rw [e]
    cases s with
    | none => exact Nat.zero_le _
    | some q =>
      have := (hS.each i q hi).nm16
      simp only [slV, Qs.v]
      omega
theorem chkX_zero {c n : Int} {l : List ByteArray} (h1 : 0 ≤ c ∧ c ≤ 4) (h2 : c = 0 ∨ (n = 0 ∧ l = [])) (h3 : 0 ≤ n ∧ n ≤ 1099511627776) (h4 : l.length ≤ 8) (h5 : ∀ t ∈ l, t.size ≤ 64) : chkX c n l = 0 := by
  unfold chkX
  rw [if_neg (by omega), if_neg (by rintro ⟨a, b⟩; rcases h2 with h | ⟨h, h'⟩; exact a h; rcases b with b | b; exact b h; exact b h'), if_neg (by omega), if_neg (by omega), if_neg (by rintro ⟨t, a, b⟩; have := h5 t a; omega)]
/-- What an op tells may be. -/
theorem deed_res {N : Nat} {S S' : St} (hS : OkS N S) {k : Int} {nm tx : ByteArray} {n m c x j : Int} {items : List ByteArray} (hk : chkA k nm.size tx.size n m = 0) (hD : Deed S nm tx n m k S' c x items j) : chkX c x items = 0 := by
  obtain ⟨_, _, hn, hm, _⟩ := chk_small hk
  cases hD with
  | push i0 q iv' h1 hs0 hn hl hf => exact chkX_zero (by omega) (Or.inl rfl) (by omega) (by simp) (by simp)
  | trim i0 q iv' D' d h1 hs0 hn hd h0' hl ht =>
    have := (hS.each i0 q hs0).len
    exact chkX_zero (by omega) (Or.inl rfl) (by omega) (by simp) (by simp)
  | take i0 q d item h1 hs0 hn hd hh =>
    have h2 := (hS.each i0 q hs0).fin
    have h3 := (List.getElem?_eq_some_iff.1 hd).1
    exact chkX_zero (by omega) (Or.inl rfl) (by omega) (by simp) (fun t ht => by
      rw [List.mem_singleton] at ht
      subst ht
      exact (hS.each i0 q hs0).small _ (List.mem_of_getElem? hd))
  | readNone i0 q h1 hs0 hn hl => exact chkX_zero (by omega) (Or.inl rfl) (by omega) (by simp) (by simp)
  | read i0 q d h1 hs0 hn hd hl =>
    have h2 := (hS.each i0 q hs0).fin
    exact chkX_zero (by omega) (Or.inl rfl) (by omega) (by rw [List.length_take]; omega) (fun t ht => (hS.each i0 q hs0).small t (List.mem_of_mem_drop (List.mem_of_mem_take ht)))
  | count i0 q h1 hs0 hn =>
    have := (hS.each i0 q hs0).len
    exact chkX_zero (by omega) (Or.inl rfl) (by omega) (by simp) (by simp)
  | list =>
    obtain ⟨a, b⟩ := nmsS_small hS
    exact chkX_zero (by omega) (Or.inl rfl) (by omega) a b
  | _ => exact chkX_zero (by omega) (by simp) (by omega) (by simp) (by simp)
theorem one_q {S : St} {nm : ByteArray} {i i' : Nat} {q q' : Qs} (h : findN (stV S) nm = (i : Int)) (h' : findN (stV S) nm = (i' : Int)) (hs : S[i]? = some (some q)) (hs' : S[i']? = some (some q')) : q = q' := by
  rw [h] at h'
  obtain rfl : i = i' := by omega
  rw [hs] at hs'
  simpa using hs'
/-- A query leaves all as it is, and tells one thing. -/
theorem deed_query {S S1 S2 : St} {k : Int} {nm tx : ByteArray} {n m c1 x1 j1 c2 x2 j2 : Int} {i1 i2 : List ByteArray} (hq : isQ k = true) (h1 : Deed S nm tx n m k S1 c1 x1 i1 j1) (h2 : Deed S nm tx n m k S2 c2 x2 i2 j2) : S1 = S ∧ S2 = S ∧ c1 = c2 ∧ x1 = x2 ∧ i1 = i2 := by
  have hk : 6 ≤ k ∧ k ≤ 8 := of_decide_eq_true hq
  clear hq
  cases h1 with
  | none k hk1 hf =>
    cases h2 with
    | none k hk2 hf2 => exact ⟨rfl, rfl, rfl, rfl, rfl⟩
    | readNone i q hf2 hs hn hl => omega
    | read i q d hf2 hs hn hd hl => omega
    | count i q hf2 hs hn => omega
    | _ => omega
  | readNone i q hf hs hn hl =>
    cases h2 with
    | none k hk2 hf2 => omega
    | readNone i' q' hf2 hs2 hn2 hl2 => exact ⟨rfl, rfl, rfl, rfl, rfl⟩
    | read i' q' d hf2 hs2 hn2 hd hl2 =>
      obtain rfl := one_q hf hf2 hs hs2
      omega
  | read i q d hf hs hn hd hl =>
    cases h2 with
    | none k hk2 hf2 => omega
    | readNone i' q' hf2 hs2 hn2 hl2 =>
      obtain rfl := one_q hf hf2 hs hs2
      omega
    | read i' q' d' hf2 hs2 hn2 hd2 hl2 =>
      obtain rfl := one_q hf hf2 hs hs2
      obtain rfl : d = d' := by omega
      exact ⟨rfl, rfl, rfl, rfl, rfl⟩
  | count i q hf hs hn =>
    cases h2 with
    | none k hk2 hf2 => omega
    | count i' q' hf2 hs2 hn2 =>
      obtain rfl := one_q hf hf2 hs hs2
      exact ⟨rfl, rfl, rfl, rfl, rfl⟩
  | list =>
    cases h2 with
    | none k hk2 hf2 => omega
    | list => exact ⟨rfl, rfl, rfl, rfl, rfl⟩
  | _ => omega
end Go.Proofs.YtkcepkehgkkkbabDoor
