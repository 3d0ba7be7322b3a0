import Derived.Test.YtkcepkehgkkkbabGreatDoorGetI
import Derived.Test.YtkcepkehgkkkbabGreatDoorJ43
import Derived.Deep.DeepCutAuto
import Derived.Deep.CutBlock
import Derived.Deep.RegionHeld3
import Derived.Deep.QuietTactic
import Derived.BigQuiet
import Derived.Test.YtkcepkehgkkkbabGreatDoorJ28
namespace Go.Proofs.YtkcepkehgkkkbabGreatDoor
open Go.RowKit
set_option linter.unusedVariables false

/-- A queue whose bytes are read. -/
structure QOk (nm : ByteArray) (f : Nat) (items : List ByteArray) (gs : List Grp) : Prop where
  n0 : 0 < nm.size
  n16 : nm.size ≤ 16
  len : items.length ≤ 32
  small : ∀ t ∈ items, t.size ≤ 64
  fin : f + items.length ≤ 1099511627776
  g4 : gs.length ≤ 4
  gk : ∀ g ∈ gs, 0 < g.1.length ∧ g.1.length ≤ 16 ∧ ∃ c : Nat, g.2 = (c : Int) ∧ f ≤ c ∧ c ≤ f + items.length
  inc : gs.Pairwise fun a b => a.1 < b.1
def putG (D : DataW Unit) (gs : List Grp) : DataW Unit := gs.foldl (fun D g => D.put (.string g.1) (.lit (.int .i64 g.2))) D
theorem putG_snoc (D : DataW Unit) (gs : List Grp) (g : Grp) : putG D (gs ++ [g]) = (putG D gs).put (.string g.1) (.lit (.int .i64 g.2)) := by simp [putG]
theorem end0 {w : World} {P : Nat} {first : Int} {ao : Option Addr} {n c : Nat} (c1 : w.cell? ⟨P, 1, none⟩ = some (.int .i64 first)) (c2 : w.cell? ⟨P, 2, none⟩ = some (.slice ao n c)) (h0 : 0 ≤ first) (h1 : first + n ≤ 1152921504606846976) :
    Calls Tryz.prog 50 #[.pointer (some ⟨P, 0, none⟩)] w fun e w' => e = .returned (.int .i64 (first + n)) ∧ ∃ q, w' = w.drewN q := by
  have := end_q (w := w) (P := P) (i := 0) (first := first) (ao := ao) (n := n) (c := c) (by simpa using c1) (by simpa using c2) h0 h1
  simpa using this
theorem isFree0 {w : World} {P : Nat} {nm : ByteArray} (c0 : w.cell? ⟨P, 0, none⟩ = some (.string nm)) : Calls Tryz.prog 43 #[.pointer (some ⟨P, 0, none⟩)] w fun e w' => e = .returned (.bool nm.toList.isEmpty) ∧ w' = w := by
  have := isFree_any (w := w) (P := P) (i := 0) (nm := nm) (by simpa using c0)
  simpa using this
theorem groupsB_drop {gs : List Grp} {k : Nat} (hk : k < gs.length) : groupsB (gs.drop k) = (enc 9 gs[k].1.length ++ gs[k].1) ++ (enc 9 gs[k].2.toNat ++ groupsB (gs.drop (k + 1))) := by
  rw [List.drop_eq_getElem_cons hk]
  simp only [groupsB, List.flatMap_cons, List.append_assoc]
theorem slot_small {nm : ByteArray} {f : Nat} {items : List ByteArray} {gs : List Grp} (h : QOk nm f items gs) : (slotB nm f items gs).length ≤ 2197 :=
  slot_len h.n16 (by have := h.fin; omega) h.len h.small h.g4 (fun g hg => by
    obtain ⟨h1, h2, c, h3, h4, h5⟩ := h.gk g hg
    exact ⟨h1, h2, c, h3, by have := h.fin; omega⟩)
theorem strB_len (l : List UInt8) : (strB l).data.toList = l := by simp [strB]
theorem txtB_str (l : List UInt8) : txtB (strB l) = enc 9 l.length ++ l := by unfold txtB; rw [strB_size, strB_len]

/-- The name that came last. -/
def lastS (gs : List Grp) : Nat → ByteArray
  | 0 => ⟨#[]⟩
  | k + 1 => strB (gs.getD k ([], 0)).1
theorem strB_list (l : List UInt8) : (strB l).toList = l := by rw [toList_data, strB_len]
theorem last_lt {nm : ByteArray} {f : Nat} {items : List ByteArray} {gs : List Grp} (h : QOk nm f items gs) : ∀ {k : Nat} (hk : k < gs.length), (lastS gs k).toList < gs[k].1
  | 0, hk => by
    have h1 := (h.gk _ (List.getElem_mem hk)).1
    have e : (lastS gs 0).toList = [] := by rw [toList_data]; rfl
    rw [e]
    cases hg : gs[0].1 with
    | nil => rw [hg] at h1; exact absurd h1 (by simp)
    | cons a l => exact List.Lex.nil
  | k + 1, hk => by
    have e : (lastS gs (k + 1)).toList = gs[k].1 := by
      show (strB (gs.getD k ([], 0)).1).toList = _
      rw [strB_list, List.getD_eq_getElem?_getD, List.getElem?_eq_getElem (by omega)]
      rfl
    rw [e]
    exact (List.pairwise_iff_getElem.1 h.inc) k (k + 1) (by omega) hk (by omega)
theorem perm_map {a b c d : Comp} {X : List Comp} : (a :: b :: c :: d :: X).Perm (d :: a :: b :: c :: X) := List.perm_middle (l₁ := [a, b, c])

set_option maxHeartbeats 3200000 in
set_option maxRecDepth 1000000 in
theorem readQ_ok {cs : List Comp} {w : World} (h : All cs w) {v : Value} {nm : ByteArray} {f : Nat} {items : List ByteArray} {gs : List Grp} (hq : QOk nm f items gs) (hr : ReadsW w v (slotB nm f items gs)) :
    Calls Tryz.prog 22 #[v] w fun e w' => ∃ so sc b, e = .returned (.tuple #[.agg #[.string nm, .int .i64 (f : Int), .slice so items.length sc, .map (some b)], .bool true]) ∧ All (ownC 9 (.slice so items.length sc) (txtV items) :: mapC b gs.length (putG (.map []) gs) :: cs) w' := by
  have A0 : Hid (All (blkC w.heap.size [.string ⟨#[]⟩, .int .i64 0, .slice none 0 0, .map none] 68 :: cs) (w.alloc (.cells [Value.string ⟨#[]⟩, .int .i64 0, .slice none 0 0, .map none].toArray 68))) := hid (h.addBlk _ _)
  have RA := hid (hr.below (ba w (.cells [Value.string ⟨#[]⟩, .int .i64 0, .slice none 0 0, .map none].toArray 68)))
  have HQ := hid hq
  have hsm := hid (slot_small hq)
  have C1 := hid (newR A0.out RA.out (by have := hsm.out; omega))
  clear h hq hr A0 RA
  have hf40 : f ≤ 1099511627776 := by have := HQ.out.fin; omega
  go_enter Tryz.func22, Tryz.ntmps22
  go_wp2_with fail
  refine C1.out.mono ?_
  rintro e w1 ⟨b, D, rv, rfl, A1, _⟩
  generalize w.heap.size = K2 at *
  have E1 := txt_enc nm 16 (by omega) (by have := HQ.out.n16; omega) (enc 9 f ++ (itemsB items ++ (enc 9 gs.length ++ groupsB gs))) 0 0
  have es : (slotB nm f items gs) = txtB nm ++ (enc 9 f ++ (itemsB items ++ (enc 9 gs.length ++ groupsB gs))) := rfl
  rw [es] at A1
  have C2 := hid (textRd A1 (by have := hsm.out; rw [es] at this; simp only; omega) 16)
  rw [E1.1, E1.2] at C2
  clear E1 es A1 C1
  go_wp2_with fail
  refine C2.out.mono ?_
  rintro e w2 ⟨rfl, rv2, A2⟩
  have C3 := hid (newQueue_any A2 nm)
  clear C2 A2
  go_wp2_with fail
  refine C3.out.mono ?_
  rintro e w3 ⟨bm, rfl, A3, _, _⟩
  have A4 : Hid (All (rdC b D rv2 ⟨enc 9 f ++ (itemsB items ++ (enc 9 gs.length ++ groupsB gs)), 0 + (txtB nm).length, 0⟩ :: blkC w3.heap.size [.string nm, .int .i64 0, .slice none 0 0, .map (some bm)] 68 :: mapC bm 0 (.map []) :: blkC K2 [.string ⟨#[]⟩, .int .i64 0, .slice none 0 0, .map none] 68 :: cs) (w3.alloc (.cells [Value.string nm, .int .i64 0, .slice none 0 0, .map (some bm)].toArray 68))) := hid ((A3.addBlk [.string nm, .int .i64 0, .slice none 0 0, .map (some bm)] 68).perm (rot3 _ _ _ _))
  have hsz := hid (show (txtB nm).length + (enc 9 f ++ (itemsB items ++ (enc 9 gs.length ++ groupsB gs))).length ≤ 2197 by
    have := hsm.out
    rw [show slotB nm f items gs = txtB nm ++ (enc 9 f ++ (itemsB items ++ (enc 9 gs.length ++ groupsB gs))) from rfl, List.length_append] at this
    exact this)
  clear A3 C3
  go_upto_region 3 with fail
  have eW : w3.alloc (.cells #[.string nm, .int .i64 0, .slice none 0 0, .map (some bm)] 68) = w3.alloc (.cells [Value.string nm, .int .i64 0, .slice none 0 0, .map (some bm)].toArray 68) := rfl
  rw [eW]
  clear eW
  generalize hw4 : w3.alloc (.cells [Value.string nm, .int .i64 0, .slice none 0 0, .map (some bm)].toArray 68) = w4 at *
  generalize hKK : w3.heap.size = K at *
  clear hw4 hKK
  have E2 := num_enc f (by omega) (itemsB items ++ (enc 9 gs.length ++ groupsB gs)) (0 + (txtB nm).length) 0 1099511627776 (by omega)
  have C4 := hid (numRd A4.out (by have := hsz.out; simp only; omega) 1099511627776)
  rw [E2.1, E2.2] at C4
  clear E2 A4
  go_wp2_with fail
  refine C4.out.mono ?_
  rintro e w5 ⟨rfl, rv5, A5⟩
  obtain ⟨pl5, hpl5⟩ : ∃ pl, Hid (0 + (txtB nm).length + (enc 9 f).length = pl ∧ pl + (itemsB items ++ (enc 9 gs.length ++ groupsB gs)).length ≤ 2197) := ⟨_, hid ⟨rfl, by have := hsz.out; simp only [List.length_append] at this ⊢; omega⟩⟩
  rw [hpl5.out.1] at A5
  have k1 : w5.cell? ⟨K, 1, none⟩ = some (.int .i64 0) := by rw [cell_at A5.tail.1.2.1]; rfl
  have kf : ∀ j, w5.frozen? ⟨K, j, none⟩ = false := fun j => free_at A5.tail.1.2.1 j
  have A6 := hid ((A5.swap.setBlk 1 (.int .i64 (f : Int))).swap)
  clear A5 C4
  go_upto_region 4 with fail
  generalize hw6 : w5.setCell ⟨K, 1, none⟩ (.int .i64 (f : Int)) = w6 at *
  clear hw6 k1 kf
  have hlen := HQ.out.len
  have E3 := num_enc items.length (by omega) (textsB items ++ (enc 9 gs.length ++ groupsB gs)) pl5 0 32 (by omega)
  have ei : itemsB items ++ (enc 9 gs.length ++ groupsB gs) = enc 9 items.length ++ (textsB items ++ (enc 9 gs.length ++ groupsB gs)) := by simp [itemsB]
  rw [← ei] at E3
  obtain ⟨pl7, E4⟩ := items_enc items HQ.out.small (enc 9 gs.length ++ groupsB gs) (pl5 + (enc 9 items.length).length) 0 items.length (Nat.le_refl _)
  rw [List.take_length, List.drop_length] at E4
  have HP7 : Hid (pl7 + (enc 9 gs.length ++ groupsB gs).length ≤ 2197) := hid (by
    have h1 := items_size (⟨textsB items ++ (enc 9 gs.length ++ groupsB gs), pl5 + (enc 9 items.length).length, 0⟩ : Rst) items.length
    rw [E4] at h1
    have h2 := hpl5.out.2
    rw [ei] at h2
    unfold Rst.size at h1
    simp only [textsB, List.flatMap_nil, List.nil_append, List.length_append] at h1 h2 ⊢
    omega)
  have C5 := hid (getItems32 A6.out (by have := hpl5.out.2; unfold Rst.size; simp only; omega))
  rw [E3.2, E3.1, Int.toNat_natCast, E4] at C5
  clear E3 E4 ei A6
  go_wp2_with fail
  refine C5.out.mono ?_
  rintro e w7 ⟨so, sc, rv7, rfl, A7⟩
  have A8 : Hid (All (rdC b D rv7 ⟨enc 9 gs.length ++ groupsB gs, pl7, 0⟩ :: blkC K [.string nm, .int .i64 (f : Int), .slice none 0 0, .map (some bm)] 68 :: ownC 9 (.slice so items.length sc) (txtV items) :: mapC bm 0 (.map []) :: blkC K2 [.string ⟨#[]⟩, .int .i64 0, .slice none 0 0, .map none] 68 :: cs) w7) := hid (A7.perm ((List.Perm.swap _ _ _).trans (List.Perm.cons _ (List.Perm.swap _ _ _))))
  clear A7 C5
  have k2 : w7.cell? ⟨K, 2, none⟩ = some (.slice none 0 0) := by rw [cell_at A8.out.tail.1.2.1]; rfl
  have kf : ∀ j, w7.frozen? ⟨K, j, none⟩ = false := fun j => free_at A8.out.tail.1.2.1 j
  have A9 : Hid (All (rdC b D rv7 ⟨enc 9 gs.length ++ groupsB gs, pl7, 0⟩ :: blkC K [.string nm, .int .i64 (f : Int), .slice so items.length sc, .map (some bm)] 68 :: ownC 9 (.slice so items.length sc) (txtV items) :: mapC bm 0 (.map []) :: blkC K2 [.string ⟨#[]⟩, .int .i64 0, .slice none 0 0, .map none] 68 :: cs) (w7.setCell ⟨K, 2, none⟩ (.slice so items.length sc))) := hid ((A8.out.swap.setBlk 2 (.slice so items.length sc)).swap)
  clear A8
  generalize hil : items.length = il at *
  have HIL := hid hil
  clear hil
  go_upto_region 5 with fail
  generalize hw9 : w7.setCell ⟨K, 2, none⟩ (.slice so il sc) = w9 at *
  clear hw9 k2 kf
  have hnm : nm.toList.isEmpty = false := by
    have h1 := HQ.out.n0
    have h2 := (empty_iff nm)
    cases hb : nm.toList with
    | nil => exact absurd (h2.1 hb) (by omega)
    | cons a l => rfl
  have c0 : w9.cell? ⟨K, 0, none⟩ = some (.string nm) := by rw [cell_at A9.out.tail.1.2.1]; rfl
  have c1 : w9.cell? ⟨K, 1, none⟩ = some (.int .i64 (f : Int)) := by rw [cell_at A9.out.tail.1.2.1]; rfl
  have c2 : w9.cell? ⟨K, 2, none⟩ = some (.slice so il sc) := by rw [cell_at A9.out.tail.1.2.1]; rfl
  have hfin : f + il ≤ 1099511627776 := by have := HQ.out.fin; rw [HIL.out] at this; exact this
  have t1 : ¬ (1099511627776 : Int) < (f : Int) + (il : Int) := by omega
  have t1b : decide ((1099511627776 : Int) < (f : Int) + (il : Int)) = false := decide_eq_false t1
  go_wp2_with fail
  refine (isFree0 c0).mono ?_
  rintro e w10 ⟨rfl, rfl⟩
  rw [hnm]
  go_wp2_with fail
  refine (end0 c1 c2 (by omega) (by omega)).mono ?_
  rintro e w11 ⟨rfl, nq, hw11⟩
  have A11 : Hid (All (rdC b D rv7 ⟨enc 9 gs.length ++ groupsB gs, pl7, 0⟩ :: blkC K [.string nm, .int .i64 (f : Int), .slice so il sc, .map (some bm)] 68 :: ownC 9 (.slice so il sc) (txtV items) :: mapC bm 0 (.map []) :: blkC K2 [.string ⟨#[]⟩, .int .i64 0, .slice none 0 0, .map none] 68 :: cs) w11) := hid (by rw [hw11]; exact A9.out.drewN nq)
  clear hw11 A9 c0 c1 c2 hnm
  have g4 := HQ.out.g4
  have E5 := num_enc gs.length (by omega) (groupsB gs) pl7 0 4 (by omega)
  have C6 := hid (numRd A11.out (by have := HP7.out; simp only; omega) 4)
  rw [E5.1, E5.2] at C6
  clear E5 A11
  go_wp2_with fail
  refine C6.out.mono ?_
  rintro e w12 ⟨rfl, rv12, A12⟩
  have A12 := hid A12
  clear C6 t1 t1b
  generalize hgl : gs.length = gl at *
  have HGL := hid hgl
  clear hgl
  have HP12 : Hid (pl7 + (enc 9 gl).length + (groupsB gs).length ≤ 2197) := hid (by have := HP7.out; simp only [List.length_append] at this; omega)
  go_wp2
  go_loopw [6, 29] (fun lv iv wr => ∃ (k pl : Nat) (rv' : Value), k ≤ gl ∧ iv = .int .i64 (k : Int) ∧ lv = .string (lastS gs k) ∧ Hid (pl + (groupsB (gs.drop k)).length ≤ 2197) ∧ Hid (All (rdC b D rv' ⟨groupsB (gs.drop k), pl, 0⟩ :: blkC K [.string nm, .int .i64 (f : Int), .slice so il sc, .map (some bm)] 68 :: ownC 9 (.slice so il sc) (txtV items) :: mapC bm k (putG (.map []) (gs.take k)) :: blkC K2 [.string ⟨#[]⟩, .int .i64 0, .slice none 0 0, .map none] 68 :: cs) wr)) (fun _ iv _ => gl - (intOf iv).toNat)
  case atStart => exact ⟨0, _, _, by omega, rfl, rfl, HP12, A12⟩
  case round =>
    clear A12
    obtain ⟨k, pl, rv', hk, rfl, rfl, HPL, AR⟩ := hrel
    by_cases hlt : k < gl
    · have hkl : k < gs.length := by rw [HGL.out]; exact hlt
      obtain ⟨g, hg⟩ : ∃ g, Hid (gs[k] = g) := ⟨_, hid rfl⟩
      have ED := groupsB_drop hkl
      rw [hg.out] at ED
      obtain ⟨q1, q2, cN, q3, q4, q5⟩ := HQ.out.gk g (by rw [← hg.out]; exact List.getElem_mem hkl)
      rw [HIL.out] at q5
      have ED2 : groupsB (gs.drop k) = txtB (strB g.1) ++ (enc 9 cN ++ groupsB (gs.drop (k + 1))) := by rw [ED, txtB_str, q3, Int.toNat_natCast]
      have E6 := txt_enc (strB g.1) 16 (by omega) (by rw [strB_size]; omega) (enc 9 cN ++ groupsB (gs.drop (k + 1))) pl 0
      rw [← ED2] at E6
      have C7 := hid (textRd AR.out (by have := HPL.out; simp only; omega) 16)
      rw [E6.1, E6.2] at C7
      have HPL2 : Hid (pl + (txtB (strB g.1)).length + (enc 9 cN ++ groupsB (gs.drop (k + 1))).length ≤ 2197) := hid (by have := HPL.out; rw [ED2] at this; simp only [List.length_append] at this ⊢; omega)
      clear ED ED2 E6 AR HPL
      have l1 : decide ((k : Int) < (gl : Int)) = true := decide_eq_true (by omega)
      have l2 : (k : Int) < (gl : Int) := by omega
      go_wp2_with fail
      refine C7.out.mono ?_
      rintro e w13 ⟨rfl, rv13, A13⟩
      have A13 := hid A13
      clear C7
      have c1 : w13.cell? ⟨K, 1, none⟩ = some (.int .i64 (f : Int)) := by rw [cell_at A13.out.tail.1.2.1]; rfl
      have c2 : w13.cell? ⟨K, 2, none⟩ = some (.slice so il sc) := by rw [cell_at A13.out.tail.1.2.1]; rfl
      go_wp2_with fail
      refine (end0 c1 c2 (by omega) (by omega)).mono ?_
      rintro e w14 ⟨rfl, nq2, hw14⟩
      have A14 : Hid (All (rdC b D rv13 ⟨enc 9 cN ++ groupsB (gs.drop (k + 1)), pl + (txtB (strB g.1)).length, 0⟩ :: blkC K [.string nm, .int .i64 (f : Int), .slice so il sc, .map (some bm)] 68 :: ownC 9 (.slice so il sc) (txtV items) :: mapC bm k (putG (.map []) (gs.take k)) :: blkC K2 [.string ⟨#[]⟩, .int .i64 0, .slice none 0 0, .map none] 68 :: cs) w14) := hid (by rw [hw14]; exact A13.out.drewN nq2)
      clear hw14 A13 c1 c2
      have E7 := num_enc cN (by omega) (groupsB (gs.drop (k + 1))) (pl + (txtB (strB g.1)).length) 0 ((f : Int) + (il : Int)) (by omega)
      have C8 := hid (numRd A14.out (by have := HPL2.out; simp only; omega) ((f : Int) + (il : Int)))
      rw [E7.1, E7.2] at C8
      clear E7 A14
      have HPL3 : Hid (pl + (txtB (strB g.1)).length + (enc 9 cN).length + (groupsB (gs.drop (k + 1))).length ≤ 2197) := hid (by have := HPL2.out; simp only [List.length_append] at this; omega)
      go_wp2_with fail
      refine C8.out.mono ?_
      rintro e w15 ⟨rfl, rv15, A15⟩
      have A15 := hid A15
      clear C8 HPL2
      have c1 : w15.cell? ⟨K, 1, none⟩ = some (.int .i64 (f : Int)) := by rw [cell_at A15.out.tail.1.2.1]; rfl
      have c3 : w15.cell? ⟨K, 3, none⟩ = some (.map (some bm)) := by rw [cell_at A15.out.tail.1.2.1]; rfl
      have hlt2 := last_lt HQ.out hkl
      rw [hg.out] at hlt2
      have b1 : Op.bytesLess (strB g.1).toList (lastS gs k).toList = false := by
        rw [bytesLess_eq, strB_list]
        exact decide_eq_false (fun q => absurd (List.lt_trans hlt2 q) (List.lt_irrefl _))
      have b2 : ¬ (strB g.1).toList = (lastS gs k).toList := by
        rw [strB_list]
        exact fun q => absurd (q ▸ hlt2) (List.lt_irrefl _)
      have b3 : ((strB g.1).toList == (lastS gs k).toList) = false := by simpa using b2
      have d1 : ¬ (cN : Int) < (f : Int) := by omega
      have d1b : decide ((cN : Int) < (f : Int)) = false := decide_eq_false d1
      have hwf : (Lit.int .i64 (cN : Int)).wf = true := WalkArith.wf_i64 (by omega)
      have hsl : (strB g.1).size ≤ maxLen := by rw [strB_size]; unfold maxLen; omega
      have hkey := WideMaps.keyOf_string_mk (P := Tryz.prog) Tryz.underlying9 hsl
      obtain ⟨w16, hup, ho16, hg16⟩ := World.ownsMap.update (A15.out.tail.tail.tail.1.2.1 : w15.ownsMap Tryz.prog 9 rE bm k (putG (.map []) (gs.take k))) lawS Tryz.und66 (by unfold maxLen; omega) (val := .int .i64 (cN : Int)) hkey (plainElem_int Tryz.underlying3 hwf)
      have A16 := hid (((A15.out.perm perm_map).mapTurn hg16 ho16).perm perm_map.symm)
      have EP : Hid ((putG (.map []) (gs.take k)).put (.string (strB g.1).data.toList) (.lit (.int .i64 (cN : Int))) = putG (.map []) (gs.take (k + 1))) := hid (by
        rw [List.take_succ_eq_append_getElem hkl, putG_snoc, hg.out, strB_len, q3])
      rw [EP.out] at A16
      have EL : Hid (lastS gs (k + 1) = strB g.1) := hid (by
        show strB (gs.getD k ([], 0)).1 = _
        rw [List.getD_eq_getElem?_getD, List.getElem?_eq_getElem hkl, hg.out]
        rfl)
      clear hkey ho16 hg16 A15 hlt2
      go_wp2
      go_roundw
      case rel => exact ⟨k + 1, _, _, by omega, by go_num, by rw [EL.out], HPL3, A16⟩
      case measure => simp [intOf]; omega
    · obtain rfl : k = gl := by omega
      have l1 : decide ((k : Int) < (k : Int)) = false := decide_eq_false (by omega)
      have e1 : gs.drop k = [] := List.drop_eq_nil_of_le (by rw [HGL.out]; exact Nat.le_refl _)
      have e2 : gs.take k = gs := List.take_of_length_le (by rw [HGL.out]; exact Nat.le_refl _)
      rw [e1, e2] at AR
      have CL := Close_any AR.out.1.2.1
      rw [show (⟨groupsB [], pl, 0⟩ : Rst).rs = [] from rfl, if_pos rfl] at CL
      have CL := hid CL
      clear e1 e2
      go_wp2_with fail
      refine CL.out.mono ?_
      rintro e w17 ⟨rfl, ⟨rv17, h17⟩, h18⟩
      have A17 := hid (AR.out.rstep (r' := ⟨[], pl, 0⟩) h17 h18)
      clear CL h17 h18 AR
      have c0 : w17.cell? ⟨K, 0, none⟩ = some (.string nm) := by rw [cell_at A17.out.tail.1.2.1]; rfl
      have c1 : w17.cell? ⟨K, 1, none⟩ = some (.int .i64 (f : Int)) := by rw [cell_at A17.out.tail.1.2.1]; rfl
      have c2 : w17.cell? ⟨K, 2, none⟩ = some (.slice so il sc) := by rw [cell_at A17.out.tail.1.2.1]; rfl
      have c3 : w17.cell? ⟨K, 3, none⟩ = some (.map (some bm)) := by rw [cell_at A17.out.tail.1.2.1]; rfl
      have A18 : Hid (All (blkC K2 [.string ⟨#[]⟩, .int .i64 0, .slice none 0 0, .map none] 68 :: ownC 9 (.slice so il sc) (txtV items) :: mapC bm k (putG (.map []) gs) :: cs) w17) := hid (A17.out.tail.tail.perm (List.perm_middle (l₁ := [_, _])))
      have z0 : w17.cell? ⟨K2, 0, none⟩ = some (.string ⟨#[]⟩) := by rw [cell_at A18.out.1.2.1]; rfl
      have z1 : w17.cell? ⟨K2, 1, none⟩ = some (.int .i64 0) := by rw [cell_at A18.out.1.2.1]; rfl
      have z2 : w17.cell? ⟨K2, 2, none⟩ = some (.slice none 0 0) := by rw [cell_at A18.out.1.2.1]; rfl
      have z3 : w17.cell? ⟨K2, 3, none⟩ = some (.map none) := by rw [cell_at A18.out.1.2.1]; rfl
      have zf : ∀ j, w17.frozen? ⟨K2, j, none⟩ = false := fun j => free_at A18.out.1.2.1 j
      have A19 := hid ((((A18.out.setBlk 0 (.string nm)).setBlk 1 (.int .i64 (f : Int))).setBlk 2 (.slice so il sc)).setBlk 3 (.map (some bm)))
      clear A17 A18
      go_wp2
      generalize (((w17.setCell ⟨K2, 0, none⟩ (.string nm)).setCell ⟨K2, 1, none⟩ (.int .i64 (f : Int))).setCell ⟨K2, 2, none⟩ (.slice so il sc)).setCell ⟨K2, 3, none⟩ (.map (some bm)) = w19 at A19 ⊢
      have y0 : w19.cell? ⟨K2, 0, none⟩ = some (.string nm) := by rw [cell_at A19.out.1.2.1]; rfl
      have y1 : w19.cell? ⟨K2, 1, none⟩ = some (.int .i64 (f : Int)) := by rw [cell_at A19.out.1.2.1]; rfl
      have y2 : w19.cell? ⟨K2, 2, none⟩ = some (.slice so il sc) := by rw [cell_at A19.out.1.2.1]; rfl
      have y3 : w19.cell? ⟨K2, 3, none⟩ = some (.map (some bm)) := by rw [cell_at A19.out.1.2.1]; rfl
      refine bodyPost_ret (v := .tuple #[.agg #[.string nm, .int .i64 (f : Int), .slice so il sc, .map (some bm)], .bool true]) (by rw [results_cell_tmp (fn := Tryz.f22) (p := 2) (u := 3) (ty := 68) rfl]; go_simp) rfl ?_
      rw [HIL.out, HGL.out]
      exact ⟨so, sc, bm, rfl, A19.out.tail⟩
end Go.Proofs.YtkcepkehgkkkbabGreatDoor

namespace Go.Proofs.YtkcepkehgkkkbabGreatDoor
open Go.RowKit
set_option linter.unusedVariables false

/-- Two queues that hold the same. -/
structure EqQ (q q' : Qs) : Prop where
  nm : q'.nm = q.nm
  first : q'.first = q.first
  items : q'.items = q.items
  has : ∀ x : List UInt8, Maps.has q'.D (.string x) = Maps.has q.D (.string x)
  left : ∀ x : List UInt8, Maps.has q.D (.string x) = true → leftD q'.D (.string x) = leftD q.D (.string x)
  size : Maps.size q'.D = Maps.size q.D
def EqO : Option Qs → Option Qs → Prop
  | none, none => True
  | some q, some q' => EqQ q q'
  | _, _ => False
/-- Two shelves that hold the same. -/
structure EqS (S S' : St) : Prop where
  len : S'.length = S.length
  at_ : ∀ (i : Nat) (a : Option Qs), S[i]? = some a → ∃ b, S'[i]? = some b ∧ EqO a b
theorem EqS.refl (S : St) : EqS S S := ⟨rfl, fun i a h => ⟨a, h, by cases a <;> simp [EqO]; exact ⟨rfl, rfl, rfl, fun _ => rfl, fun _ _ => rfl, rfl⟩⟩⟩
theorem EqS.some_ {S S' : St} (h : EqS S S') {i : Nat} {q : Qs} (hq : S[i]? = some (some q)) : ∃ q', S'[i]? = some (some q') ∧ EqQ q q' := by
  obtain ⟨b, h1, h2⟩ := h.at_ i _ hq
  cases b with
  | none => exact h2.elim
  | some q' => exact ⟨q', h1, h2⟩
theorem EqS.none_ {S S' : St} (h : EqS S S') {i : Nat} (hq : S[i]? = some none) : S'[i]? = some none := by
  obtain ⟨b, h1, h2⟩ := h.at_ i _ hq
  cases b with
  | none => exact h1
  | some q' => exact h2.elim
theorem EqO.nm {a b : Option Qs} (h : EqO a b) : (slV b).nm = (slV a).nm := by
  cases a <;> cases b
  · rfl
  · exact h.elim
  · exact h.elim
  · exact EqQ.nm h
theorem EqS.names {S S' : St} (h : EqS S S') : (stV S').map (·.nm) = (stV S).map (·.nm) := by
  apply List.ext_getElem?
  intro i
  simp only [stV, List.getElem?_map]
  cases hs : S[i]? with
  | none =>
    have : S'[i]? = none := List.getElem?_eq_none (by rw [h.len]; exact List.getElem?_eq_none_iff.1 hs)
    rw [this]
  | some a =>
    obtain ⟨b, h1, h2⟩ := h.at_ i a hs
    rw [h1]
    simp [h2.nm]
theorem findN_map (qs : List Qv) (nm : ByteArray) : findN qs nm = match (qs.map (·.nm)).findIdx? (fun t => t.toList == nm.toList) with | some i => (i : Int) | none => -1 := by
  rw [List.findIdx?_map]
  rfl
theorem EqS.find {S S' : St} (h : EqS S S') (nm : ByteArray) : findN (stV S') nm = findN (stV S) nm := by rw [findN_map, findN_map, h.names]
theorem EqS.nms {S S' : St} (h : EqS S S') : nmsS (stV S') = nmsS (stV S) := by
  have : Go.Proofs.YtkcepkehgkkkbabGreatDoor.nms (stV S') = Go.Proofs.YtkcepkehgkkkbabGreatDoor.nms (stV S) := by
    unfold Go.Proofs.YtkcepkehgkkkbabGreatDoor.nms
    rw [h.names]
  unfold nmsS
  rw [this]
theorem EqS.set {S S' : St} (h : EqS S S') (i : Nat) {a b : Option Qs} (hab : EqO a b) : EqS (S.set i a) (S'.set i b) := by
  refine ⟨by simp [h.len], fun j c hc => ?_⟩
  by_cases hij : i = j
  · subst hij
    have hi : i < S.length := by
      have := (List.getElem?_eq_some_iff.1 hc).1
      simpa using this
    rw [List.getElem?_set_self hi] at hc
    cases hc
    exact ⟨b, List.getElem?_set_self (by rw [h.len]; exact hi), hab⟩
  · rw [List.getElem?_set_ne hij] at hc ⊢
    exact h.at_ j c hc

set_option maxHeartbeats 1600000 in
/-- Two shelves that hold the same answer alike, and hold the same then. -/
theorem deed_alike {S S2 : St} (h : EqS S S2) (hT : ∀ (i : Nat) (q : Qs), S[i]? = some (some q) → Maps.Tidy q.D) (hT2 : ∀ (i : Nat) (q : Qs), S2[i]? = some (some q) → Maps.Tidy q.D) {k k2 : Int} (hkk : k2 = k) {nm tx : ByteArray} (htx : tx.size ≤ 64) {n m c x j c2 x2 j2 : Int} {items items2 : List ByteArray} {S' S2' : St}
    (d1 : Deed S nm tx n m k S' c x items j) (d2 : Deed S2 nm tx n m k2 S2' c2 x2 items2 j2) : c2 = c ∧ x2 = x ∧ items2 = items ∧ j2 = j ∧ EqS S' S2' := by
  have hf := h.find nm
  have hf0 := h.find ⟨#[]⟩
  have key : ∀ {i i2 : Nat} {q q2 : Qs}, findN (stV S) nm = (i : Int) → S[i]? = some (some q) → findN (stV S2) nm = (i2 : Int) → S2[i2]? = some (some q2) → i2 = i ∧ EqQ q q2 := by
    intro i i2 q q2 h1 h2 h3 h4
    obtain rfl : i2 = i := by omega
    obtain ⟨q', h5, h6⟩ := h.some_ h2
    rw [h4] at h5
    cases h5
    exact ⟨rfl, h6⟩
  have hkl : WideAt.IsKeyLit (.string tx.data.toList) := lawS.key (WideMaps.keyOf_string_mk Tryz.underlying9 (by have := str_len tx; unfold maxLen; omega))
  cases d1 with
  | none _ hk hF =>
    cases d2 with
    | none => exact ⟨rfl, rfl, rfl, rfl, h⟩
    | _ => exfalso; omega
  | there hF =>
    cases d2 with
    | there => exact ⟨rfl, rfl, rfl, rfl, h⟩
    | _ => exfalso; omega
  | full hF hF0 =>
    cases d2 with
    | full => exact ⟨rfl, rfl, rfl, rfl, h⟩
    | _ => exfalso; omega
  | make f b hF hF0 hs =>
    cases d2 with
    | make f2 b2 hG hG0 hs2 =>
      obtain rfl : f2 = f := by omega
      exact ⟨rfl, rfl, rfl, rfl, h.set _ ⟨rfl, rfl, rfl, fun _ => rfl, fun _ _ => rfl, rfl⟩⟩
    | _ => exfalso; omega
  | drop i q hF hs hn =>
    cases d2 with
    | drop i2 q2 hG hs2 hn2 =>
      obtain ⟨rfl, E⟩ := key hF hs hG hs2
      exact ⟨rfl, rfl, rfl, rfl, h.set _ trivial⟩
    | _ => exfalso; omega
  | pushFull i q hF hs hn hfu =>
    cases d2 with
    | pushFull => exact ⟨rfl, rfl, rfl, rfl, h⟩
    | push i2 q2 iv2 hG hs2 hn2 hl2 hf2 =>
      obtain ⟨rfl, E⟩ := key hF hs hG hs2
      have e1 := E.items
      have e2 := E.first
      rw [e1, e2] at hf2
      rw [e1] at hl2
      exfalso; omega
    | _ => exfalso; omega
  | push i q iv' hF hs hn hl hfu =>
    cases d2 with
    | pushFull i2 q2 hG hs2 hn2 hf2 =>
      obtain ⟨rfl, E⟩ := key hF hs hG hs2
      rw [E.items, E.first] at hf2
      exfalso; omega
    | push i2 q2 iv2 hG hs2 hn2 hl2 hf2 =>
      obtain ⟨rfl, E⟩ := key hF hs hG hs2
      refine ⟨rfl, by rw [E.items, E.first], rfl, rfl, h.set _ ⟨E.nm, E.first, by simp only [E.items], E.has, E.left, E.size⟩⟩
    | _ => exfalso; omega
  | trimNone i q hF hs hn hl =>
    cases d2 with
    | trimNone => exact ⟨rfl, rfl, rfl, rfl, h⟩
    | trim i2 q2 iv2 D2 d2 hG hs2 hn2 hd2 h02 hl2 ht2 =>
      obtain ⟨rfl, E⟩ := key hF hs hG hs2
      rw [E.items, E.first] at hd2
      rw [E.items] at hl2
      have : n ≤ q.first ∨ q.items.length = 0 := by
        rcases hl with h1 | h1
        · exact Or.inl h1
        · exact Or.inr (by rw [h1]; rfl)
      exfalso; omega
    | _ => exfalso; omega
  | trim i q iv' D' d hF hs hn hd h0 hl ht =>
    cases d2 with
    | trimNone i2 q2 hG hs2 hn2 hl2 =>
      obtain ⟨rfl, E⟩ := key hF hs hG hs2
      rw [E.items, E.first] at hl2
      have : n ≤ q.first ∨ q.items.length = 0 := by
        rcases hl2 with h1 | h1
        · exact Or.inl h1
        · exact Or.inr (by rw [h1]; rfl)
      exfalso; omega
    | trim i2 q2 iv2 D2 d2 hG hs2 hn2 hd2 h02 hl2 ht2 =>
      obtain ⟨rfl, E⟩ := key hF hs hG hs2
      rw [E.items, E.first] at hd2
      rw [E.items] at hl2
      obtain rfl : d2 = d := by omega
      rw [E.first] at ht2
      refine ⟨rfl, rfl, rfl, rfl, h.set _ ⟨E.nm, by simp only [E.first], by simp only [E.items], fun y => ?_, fun y hy => ?_, ?_⟩⟩
      · simp only
        rw [ht2.has, ht.has]; exact E.has y
      · simp only at hy ⊢
        rw [ht.has] at hy
        have hy2 : Maps.has q2.D (.string y) = true := by rw [E.has]; exact hy
        rw [ht2.val _ hy2, ht.val _ hy, E.left y hy]
      · simp only
        rw [ht2.size, ht.size]; exact E.size
    | _ => exfalso; omega
  | takeFull i q hF hs hn hh h4 =>
    cases d2 with
    | takeFull => exact ⟨rfl, rfl, rfl, rfl, h⟩
    | takeEmpty i2 q2 hG hs2 hn2 hh2 =>
      obtain ⟨rfl, E⟩ := key hF hs hG hs2
      rw [E.has, E.size, hh] at hh2
      rcases hh2 with ⟨_, h1, _⟩ | ⟨h1, _⟩
      · exact absurd h4 h1
      · cases h1
    | take i2 q2 d2 it2 hG hs2 hn2 hd2 hh2 =>
      obtain ⟨rfl, E⟩ := key hF hs hG hs2
      rw [E.has, E.size, hh] at hh2
      rcases hh2 with ⟨h1, _⟩ | ⟨_, h1, _⟩
      · cases h1
      · exfalso; omega
    | _ => exfalso; omega
  | takeEmpty i q hF hs hn hh =>
    cases d2 with
    | takeFull i2 q2 hG hs2 hn2 hh2 h42 =>
      obtain ⟨rfl, E⟩ := key hF hs hG hs2
      rw [E.has] at hh2
      rw [E.size] at h42
      rw [hh2] at hh
      rcases hh with ⟨_, h1, _⟩ | ⟨h1, _⟩
      · exact absurd h42 h1
      · cases h1
    | takeEmpty => exact ⟨rfl, rfl, rfl, rfl, h⟩
    | take i2 q2 d2 it2 hG hs2 hn2 hd2 hh2 =>
      obtain ⟨rfl, E⟩ := key hF hs hG hs2
      rw [E.has, E.size, E.first] at hh2
      rw [E.items] at hd2
      have hdl := (List.getElem?_eq_some_iff.1 hd2).1
      cases hb : Maps.has q.D (.string tx.data.toList) with
      | true =>
        rw [E.left _ hb] at hh2
        rw [hb] at hh hh2
        rcases hh with ⟨h1, _⟩ | ⟨_, h1⟩
        · cases h1
        · rcases hh2 with ⟨_, h2⟩ | ⟨h2, _⟩
          · exfalso; omega
          · cases h2
      | false =>
        rw [hb] at hh
        rcases hh with ⟨_, _, h1⟩ | ⟨h1, _⟩
        · rw [h1] at hdl; simp at hdl
        · cases h1
    | _ => exfalso; omega
  | take i q d item hF hs hn hd hh =>
    have hdl := (List.getElem?_eq_some_iff.1 hd).1
    cases d2 with
    | takeFull i2 q2 hG hs2 hn2 hh2 h42 =>
      obtain ⟨rfl, E⟩ := key hF hs hG hs2
      rw [E.has] at hh2
      rw [E.size] at h42
      rw [hh2] at hh
      rcases hh with ⟨h1, _⟩ | ⟨_, h1, _⟩
      · cases h1
      · exfalso; omega
    | takeEmpty i2 q2 hG hs2 hn2 hh2 =>
      obtain ⟨rfl, E⟩ := key hF hs hG hs2
      rw [E.has, E.size, E.first, E.items] at hh2
      cases hb : Maps.has q.D (.string tx.data.toList) with
      | true =>
        rw [E.left _ hb] at hh2
        rw [hb] at hh hh2
        rcases hh2 with ⟨h1, _⟩ | ⟨_, h1⟩
        · cases h1
        · rcases hh with ⟨_, h2⟩ | ⟨h2, _⟩
          · exfalso; omega
          · cases h2
      | false =>
        rw [hb] at hh2
        rcases hh2 with ⟨_, _, h1⟩ | ⟨h1, _⟩
        · rw [h1] at hdl; simp at hdl
        · cases h1
    | take i2 q2 d2 it2 hG hs2 hn2 hd2 hh2 =>
      obtain ⟨rfl, E⟩ := key hF hs hG hs2
      rw [E.has, E.size, E.first] at hh2
      rw [E.items] at hd2
      have hdd : d2 = d := by
        cases hb : Maps.has q.D (.string tx.data.toList) with
        | true =>
          rw [E.left _ hb] at hh2
          rw [hb] at hh hh2
          rcases hh with ⟨_, h1⟩ | ⟨h1, _⟩
          · rcases hh2 with ⟨_, h2⟩ | ⟨h2, _⟩
            · omega
            · cases h2
          · cases h1
        | false =>
          rw [hb] at hh hh2
          rcases hh with ⟨h1, _⟩ | ⟨_, _, h1⟩
          · cases h1
          · rcases hh2 with ⟨h2, _⟩ | ⟨_, _, h2⟩
            · cases h2
            · omega
      subst hdd
      rw [hd] at hd2
      cases hd2
      have t1 := hT _ q hs
      have t2 := hT2 _ q2 hs2
      refine ⟨rfl, by rw [E.first], rfl, rfl, h.set _ ⟨E.nm, E.first, E.items, fun y => ?_, fun y hy => ?_, ?_⟩⟩
      · simp only
        by_cases e : Lit.string y = Lit.string tx.data.toList
        · rw [e, Maps.has_put_same t1.isMap hkl, Maps.has_put_same t2.isMap hkl]
        · rw [Maps.has_put_other e, Maps.has_put_other e]; exact E.has y
      · simp only at hy ⊢
        by_cases e : Lit.string y = Lit.string tx.data.toList
        · rw [e, leftD_put_same t1.isMap hkl, leftD_put_same t2.isMap hkl, E.first]
        · rw [Maps.has_put_other e] at hy
          rw [leftD_put_other e, leftD_put_other e]; exact E.left y hy
      · simp only
        rw [Maps.size_put t1, Maps.size_put t2, E.has, E.size]
    | _ => exfalso; omega
  | readNone i q hF hs hn hl =>
    cases d2 with
    | readNone => exact ⟨rfl, rfl, rfl, rfl, h⟩
    | read i2 q2 d2 hG hs2 hn2 hd2 hl2 =>
      obtain ⟨rfl, E⟩ := key hF hs hG hs2
      rw [E.first] at hd2
      rw [E.items] at hl2
      exfalso; omega
    | _ => exfalso; omega
  | read i q d hF hs hn hd hl =>
    cases d2 with
    | readNone i2 q2 hG hs2 hn2 hl2 =>
      obtain ⟨rfl, E⟩ := key hF hs hG hs2
      rw [E.first, E.items] at hl2
      exfalso; omega
    | read i2 q2 d2 hG hs2 hn2 hd2 hl2 =>
      obtain ⟨rfl, E⟩ := key hF hs hG hs2
      rw [E.first] at hd2
      obtain rfl : d2 = d := by omega
      exact ⟨rfl, by rw [E.first], by rw [E.items], rfl, h⟩
    | _ => exfalso; omega
  | count i q hF hs hn =>
    cases d2 with
    | count i2 q2 hG hs2 hn2 =>
      obtain ⟨rfl, E⟩ := key hF hs hG hs2
      exact ⟨rfl, by rw [E.items], rfl, rfl, h⟩
    | _ => exfalso; omega
  | list =>
    cases d2 with
    | list => exact ⟨rfl, rfl, h.nms, rfl, h⟩
    | _ => exfalso; omega
end Go.Proofs.YtkcepkehgkkkbabGreatDoor

namespace Go.Proofs.YtkcepkehgkkkbabGreatDoor
open Go.RowKit
set_option linter.unusedVariables false

theorem keyL {x : List UInt8} (h : x.length ≤ 16) : WideAt.IsKeyLit (.string x) := by
  have hs : (strB x).size ≤ maxLen := by rw [strB_size]; unfold maxLen; omega
  have := lawS.key (WideMaps.keyOf_string_mk (P := Tryz.prog) Tryz.underlying9 hs)
  rwa [strB_len] at this
/-- What a map has that was made of groups. -/
theorem putG_facts : ∀ (gs : List Grp) (D : DataW Unit), Maps.Tidy D → (∀ g ∈ gs, g.1.length ≤ 16) → gs.Pairwise (fun a b => a.1 < b.1) → (∀ g ∈ gs, Maps.has D (.string g.1) = false) →
    Maps.Tidy (putG D gs) ∧ Maps.size (putG D gs) = Maps.size D + gs.length ∧ (∀ x : List UInt8, Maps.has (putG D gs) (.string x) = true ↔ ((∃ g ∈ gs, g.1 = x) ∨ Maps.has D (.string x) = true)) ∧ (∀ g ∈ gs, leftD (putG D gs) (.string g.1) = g.2) ∧ (∀ x : List UInt8, (∀ g ∈ gs, g.1 ≠ x) → leftD (putG D gs) (.string x) = leftD D (.string x))
  | [], D, hT, _, _, _ => ⟨hT, by simp [putG], fun x => by simp [putG], fun g hg => (by cases hg), fun x _ => rfl⟩
  | g :: gs, D, hT, hk, hp, hn => by
    have hkl := keyL (hk g (by simp))
    have hp' := List.pairwise_cons.1 hp
    have hT' := hT.put hkl (.lit (.int .i64 g.2))
    have hne : ∀ g' ∈ gs, Lit.string g'.1 ≠ Lit.string g.1 := fun g' hg' e => by
      injection e with e
      have := hp'.1 g' hg'
      rw [e] at this
      exact absurd this (List.lt_irrefl _)
    obtain ⟨i1, i2, i3, i4, i5⟩ := putG_facts gs (D.put (.string g.1) (.lit (.int .i64 g.2))) hT' (fun g' h => hk g' (by simp [h])) hp'.2 (fun g' h => by rw [Maps.has_put_other (hne g' h)]; exact hn g' (by simp [h]))
    have e : putG D (g :: gs) = putG (D.put (.string g.1) (.lit (.int .i64 g.2))) gs := rfl
    rw [e]
    refine ⟨i1, ?_, fun x => ?_, fun g' hg' => ?_, fun x hx => ?_⟩
    · rw [i2, Maps.size_put hT, if_neg (by rw [hn g (by simp)]; simp), List.length_cons]
      omega
    · rw [i3]
      by_cases ex : Lit.string x = Lit.string g.1
      · have ex' : x = g.1 := by injection ex
        subst ex'
        exact ⟨fun _ => Or.inl ⟨g, by simp, rfl⟩, fun _ => Or.inr (Maps.has_put_same hT.isMap hkl _)⟩
      · rw [Maps.has_put_other ex]
        constructor
        · rintro (⟨g', h1, h2⟩ | h)
          · exact Or.inl ⟨g', by simp [h1], h2⟩
          · exact Or.inr h
        · rintro (⟨g', h1, h2⟩ | h)
          · rcases List.mem_cons.1 h1 with rfl | h1
            · exact absurd (by rw [h2]) ex
            · exact Or.inl ⟨g', h1, h2⟩
          · exact Or.inr h
    · rcases List.mem_cons.1 hg' with rfl | hg'
      · rw [i5 _ (fun g2 h2 e2 => hne g2 h2 (by rw [e2])), leftD_put_same hT.isMap hkl]
      · exact i4 g' hg'
    · rw [i5 x (fun g' h => hx g' (by simp [h])), leftD_put_other (fun e2 => hx g (by simp) (by injection e2 with e2; exact e2.symm))]
/-- The groups of a map, strictly rising. -/
theorem grS_inc {D : DataW Unit} {w : World} {b n : Nat} (hown : w.ownsMap Tryz.prog 9 rE b n D) : (grS D).Pairwise fun a b => a.1 < b.1 := by
  have tr : ∀ a b c : List UInt8, leB a b = true → leB b c = true → leB a c = true := fun a b c h1 h2 => by simp only [leB, decide_eq_true_eq] at *; exact List.le_trans h1 h2
  have tt : ∀ a b : List UInt8, (leB a b || leB b a) = true := fun a b => by simp only [leB, Bool.or_eq_true, decide_eq_true_eq]; exact List.le_total a b
  have hnd : (strKeys D).Nodup := by
    obtain ⟨es, hD, hpw, _⟩ := hown.entries lawS
    obtain ⟨es', hD', hko⟩ := hown.keysOf
    obtain rfl : es = es' := by rw [hD] at hD'; simpa using hD'
    subst hD
    have hk : ∀ p ∈ es, ∃ x, p.1 = .string x := fun p hp => by obtain ⟨v, hv⟩ := hko p hp; obtain ⟨x, _, hx, _⟩ := Maps.keyOf_str Tryz.underlying9 hv; exact ⟨x, hx⟩
    show (es.map fun p => strOf p.1).Nodup
    refine List.pairwise_map.2 ?_
    refine (List.Pairwise.and_mem.1 hpw).imp ?_
    rintro p q ⟨hp, hq, h⟩ e
    obtain ⟨x, hx⟩ := hk p hp
    obtain ⟨y, hy⟩ := hk q hq
    rw [hx, hy] at e h
    simp only [strOf] at e
    subst e
    simp at h
  have hs := List.pairwise_mergeSort tr tt (strKeys D)
  have hd : ((strKeys D).mergeSort leB).Nodup := (List.mergeSort_perm _ leB).nodup_iff.2 hnd
  unfold grS
  refine List.pairwise_map.2 ((hs.and hd).imp ?_)
  rintro x y ⟨h1, h2⟩
  simp only [leB, decide_eq_true_eq] at h1
  by_cases h : x < y
  · exact h
  · exact absurd (List.le_antisymm h1 (List.not_lt.1 h)) h2
/-- A queue of a shelf, as its bytes tell it. -/
theorem OkQ.qok {N : Nat} {q : Qs} (h : OkQ N q) {w : World} {b n : Nat} (hown : w.ownsMap Tryz.prog 9 rE b n q.D) : QOk q.nm q.first q.items (grS q.D) :=
  ⟨h.nm0, h.nm16, h.len, h.small, h.fin, by rw [grS_len hown]; exact h.gs, fun g hg => by
    obtain ⟨h1, h2⟩ := (mem_grS hown).1 hg
    obtain ⟨a, b, c, hc, d, e⟩ := h.gk _ h1
    exact ⟨a, b, c, by rw [h2, hc], d, e⟩, grS_inc hown⟩
/-- The queue that is read. -/
def qRead (q : Qs) (iv : Value) (b : Nat) : Qs := ⟨q.nm, q.first, q.items, iv, b, (grS q.D).length, putG (.map []) (grS q.D)⟩
theorem OkQ.eqRead {N : Nat} {q : Qs} (h : OkQ N q) {w : World} {b n : Nat} (hown : w.ownsMap Tryz.prog 9 rE b n q.D) (iv : Value) (b' : Nat) : EqQ q (qRead q iv b') := by
  obtain ⟨i1, i2, i3, i4, i5⟩ := putG_facts (grS q.D) (.map []) Maps.tidy_empty (fun g hg => (h.okG hown g hg).2.1) (grS_inc hown) (fun g _ => rfl)
  have has : ∀ x : List UInt8, Maps.has (putG (.map []) (grS q.D)) (.string x) = Maps.has q.D (.string x) := fun x => by
    have e : (Maps.has (putG (.map []) (grS q.D)) (.string x) = true) ↔ (Maps.has q.D (.string x) = true) := by
      rw [i3]
      constructor
      · rintro (⟨g, h1, rfl⟩ | h)
        · exact ((mem_grS hown).1 h1).1
        · cases h
      · intro hx
        exact Or.inl ⟨(x, leftD q.D (.string x)), (mem_grS hown).2 ⟨hx, rfl⟩, rfl⟩
    exact Bool.eq_iff_iff.2 e
  refine ⟨rfl, rfl, rfl, has, fun x hx => ?_, ?_⟩
  · exact i4 (x, leftD q.D (.string x)) ((mem_grS hown).2 ⟨hx, rfl⟩)
  · show Maps.size (putG (.map []) (grS q.D)) = _
    rw [i2, grS_len hown]
    exact Nat.zero_add _
theorem OkQ.read {N M : Nat} {q : Qs} (h : OkQ N q) {w : World} {b n : Nat} (hown : w.ownsMap Tryz.prog 9 rE b n q.D) (iv : Value) (b' : Nat) (hM : 4 ≤ M) : OkQ M (qRead q iv b') := by
  have E := h.eqRead hown iv b'
  refine ⟨h.nm0, h.nm16, h.len, h.small, h.fin, by rw [E.size]; exact h.gs, fun x hx => ?_, ?_⟩
  · rw [E.has] at hx
    rw [E.left x hx]
    exact h.gk x hx
  · show (grS q.D).length ≤ M
    rw [grS_len hown]
    have := h.gs
    omega
/-- Queues that hold the same have the same bytes. -/
theorem grS_alike {q q' : Qs} (E : EqQ q q') {w w' : World} {b n b' n' : Nat} (h : w.ownsMap Tryz.prog 9 rE b n q.D) (h' : w'.ownsMap Tryz.prog 9 rE b' n' q'.D) : grS q'.D = grS q.D := by
  have hnd : ∀ {D : DataW Unit} {w : World} {b n : Nat}, w.ownsMap Tryz.prog 9 rE b n D → ((grS D).map Prod.fst).Nodup := fun {D w b n} ho => List.pairwise_map.2 ((grS_inc ho).imp (fun {x y} h e => by rw [e] at h; exact absurd h (List.lt_irrefl _)))
  have hmem : ∀ g : Grp, g ∈ grS q'.D ↔ g ∈ grS q.D := fun g => by
    rw [mem_grS h', mem_grS h, E.has]
    constructor
    · rintro ⟨h1, h2⟩; exact ⟨h1, by rw [h2, E.left _ h1]⟩
    · rintro ⟨h1, h2⟩; exact ⟨h1, by rw [h2, E.left _ h1]⟩
  have nd : ∀ {D : DataW Unit} {w : World} {b n : Nat}, w.ownsMap Tryz.prog 9 rE b n D → (grS D).Nodup := fun {D w b n} ho => (grS_inc ho).imp (fun {x y} h e => by rw [e] at h; exact absurd h (List.lt_irrefl _))
  have hp : (grS q'.D).Perm (grS q.D) := (List.perm_ext_iff_of_nodup (nd h') (nd h)).2 hmem
  exact List.Perm.eq_of_pairwise (le := fun a b : Grp => a.1 < b.1) (fun a b _ _ h1 h2 => absurd (List.lt_trans h1 h2) (List.lt_irrefl _)) (grS_inc h') (grS_inc h) hp
end Go.Proofs.YtkcepkehgkkkbabGreatDoor
