import Derived.Test.YtkcepkehgkkkbaaGreatDoorJ10
import Derived.Deep.Draws
namespace Go.Proofs.YtkcepkehgkkkbaaGreatDoor
open Go.RowKit
set_option linter.unusedVariables false

theorem mem3 {a b c : Comp} {cs : List Comp} : c ∈ a :: b :: c :: cs := List.mem_cons_of_mem _ mem2
theorem mem4 {a b c d : Comp} {cs : List Comp} : d ∈ a :: b :: c :: d :: cs := List.mem_cons_of_mem _ mem3

theorem lenS0 (l : List UInt8) : lenS (addS (some []) l) = l.length := by show ([] ++ l).length = l.length; rw [List.nil_append]
theorem str_len (nm : ByteArray) : nm.data.toList.length = nm.size := Array.length_toList
theorem textsB_len (l : List ByteArray) : (textsB l).length ≤ bulkT l := by
  induction l with
  | nil => simp [textsB, bulkT]
  | cons t l ih =>
    have he := enc_len 9 t.size
    have hs := str_len t
    have e1 : (textsB (t :: l)).length = (enc 9 t.size).length + t.data.toList.length + (textsB l).length := by simp [textsB]; omega
    have e2 : bulkT (t :: l) = t.size + 10 + bulkT l := by simp [bulkT]
    rw [e1, e2]
    omega
theorem len2 (nm : ByteArray) (h : nm.size ≤ 1048576) : lenS (addS (some []) (enc 9 nm.size ++ nm.data.toList)) ≤ 2000000 := by
  have h1 := enc_len 9 nm.size
  rw [lenS0, List.length_append, str_len]; omega
theorem len3 (nm : ByteArray) (f : Nat) (h : nm.size ≤ 1048576) : lenS (addS (some []) (enc 9 nm.size ++ nm.data.toList ++ enc 9 f)) ≤ 2000020 := by
  have h1 := enc_len 9 nm.size
  have h2 := enc_len 9 f
  rw [lenS0, List.length_append, List.length_append, str_len]; omega
theorem len4 (nm : ByteArray) (f : Nat) (items : List ByteArray) (h : nm.size ≤ 1048576) (hi : bulkT items ≤ 1099511627776) : lenS (addS (some []) (enc 9 nm.size ++ nm.data.toList ++ enc 9 f ++ itemsB items)) ≤ 1099517000000 := by
  have h1 := enc_len 9 nm.size
  have h2 := enc_len 9 f
  have h3 := enc_len 9 items.length
  have h4 := textsB_len items
  rw [lenS0, List.length_append, List.length_append, List.length_append, str_len, itemsB, List.length_append]; omega

set_option maxHeartbeats 6400000 in
set_option maxRecDepth 1000000 in
theorem bytes_one {P i b n : Nat} {qs : List Qv} {nm : ByteArray} {first : Nat} {iv : Value} {items : List ByteArray} {D : DataW Unit} {cs : List Comp} {w : World} (h : All (blkC P (flat qs) 122 :: ownC 9 iv (txtV items) :: mapC b n D :: cs) w) (hq : qs[i]? = some ⟨nm, first, iv, .map (some b)⟩) (hn : n ≤ 1048576)
    (hnm : nm.size ≤ 1048576) (hfs : first < 1152921504606846976) (hit : bulkT items ≤ 1099511627776) (hil : items.length < 1048576) {x0 : List UInt8} {c0 : Nat} (hx : x0.length ≤ 1048576) (hD : ∀ x, Maps.has D (.string x) = true ↔ x = x0) (hc : leftD D (.string x0) = c0) (hc0 : c0 < 1152921504606846976) (hsz : Maps.size D = 1) :
    Calls Tryz.prog 88 #[.pointer (some ⟨P, i * 4, none⟩)] w fun e w' => ∃ so sn sc, e = .returned (.slice so sn sc) ∧ All (ownC 5 (.slice so sn sc) (cellsB (slotB nm first items [(x0, (c0 : Int))])) :: blkC P (flat qs) 122 :: ownC 9 iv (txtV items) :: mapC b n D :: cs) w' := by
  obtain ⟨ao, cp, eiv⟩ := owns_form (h.2.2.1.2.1 : w.ownsRow 0 9 1 iv (txtV items).length (txtV items))
  rw [List.length_map] at eiv
  subst eiv
  have HH := hid h
  have HQ := hid hq
  have HD := hid hD
  have HC := hid hc
  have c1 := h.q0 List.mem_cons_self hq
  clear h hq hD hc
  go_enter Tryz.func88, Tryz.ntmps88
  go_wp2_with fail
  refine (newW HH.out).mono ?_
  rintro e w1 ⟨B, rfl, A⟩
  have A := hid A
  clear HH c1
  have c1 := A.out.q0 mem2 HQ.out
  go_wp2_with fail
  refine (textW A.out nm (by simp [lenS]; omega)).mono ?_
  rintro e w2 ⟨rfl, v2, A2⟩
  have A := hid A2
  clear A2 c1
  have c1 := A.out.q1 mem2 HQ.out
  have L2 := hid (len2 nm hnm)
  go_wp2_with fail
  refine (natW A.out first (by omega) (by have := L2.out; omega)).mono ?_
  rintro e w3 ⟨rfl, v3, A2⟩
  have A := hid A2
  clear A2 c1
  have c1 := A.out.q2 mem2 HQ.out
  rw [addS_addS] at A
  have L3 := hid (len3 nm first hnm)
  go_wp2_with fail
  refine (putItems_any (l := items) A.out (fun w' hw' => txts_of (e := 9) hw' mem2) (by have := L3.out; omega) (by omega)).mono ?_
  rintro e w4 ⟨rfl, v4, A2⟩
  rw [addS_addS] at A2
  have A := hid A2
  clear A2 c1
  have c1 := A.out.q3 mem2 HQ.out
  have hlm := ((A.out.mem mem4).2.1 : w4.ownsMap Tryz.prog 9 rE b n D).len Tryz.und117
  rw [hsz] at hlm
  have L4 := hid (len4 nm first items hnm hit)
  go_wp2_with fail
  refine (natW A.out 1 (by omega) (by have := L4.out; omega)).mono ?_
  rintro e w5 ⟨rfl, v5, A2⟩
  rw [addS_addS] at A2
  have A := hid A2
  clear A2 c1 hlm
  go_wp2_with fail
  refine (byName_one (A.out.perm (ds := mapC b n D :: blkC P (flat qs) 122 :: wrC B v5 (addS (some []) (enc 9 nm.size ++ nm.data.toList ++ enc 9 first ++ itemsB items ++ enc 9 1)) :: ownC 9 (.slice ao items.length cp) (txtV items) :: cs) ?_) HQ.out rfl hn HD.out).mono ?_
  · refine List.Perm.trans (l₂ := mapC b n D :: wrC B v5 (addS (some []) (enc 9 nm.size ++ nm.data.toList ++ enc 9 first ++ itemsB items ++ enc 9 1)) :: blkC P (flat qs) 122 :: ownC 9 (.slice ao items.length cp) (txtV items) :: cs) ?_ (List.Perm.cons _ (List.Perm.swap _ _ _))
    exact List.perm_middle (l₁ := [wrC B v5 (addS (some []) (enc 9 nm.size ++ nm.data.toList ++ enc 9 first ++ itemsB items ++ enc 9 1)), blkC P (flat qs) 122, ownC 9 (.slice ao items.length cp) (txtV items)])
  rintro e w6 ⟨gv, rfl, A2⟩
  rw [HC.out] at A2
  obtain ⟨ga, gc, eg⟩ := owns_form (A2.1.2.1 : w6.ownsRow 0 164 2 gv [(x0, (c0 : Int))].length (cellsG [(x0, (c0 : Int))]))
  subst eg
  have A := hid (A2.perm (ds := wrC B v5 (addS (some []) (enc 9 nm.size ++ nm.data.toList ++ enc 9 first ++ itemsB items ++ enc 9 1)) :: rowG (.slice ga 1 gc) [(x0, (c0 : Int))] :: mapC b n D :: blkC P (flat qs) 122 :: ownC 9 (.slice ao items.length cp) (txtV items) :: cs) (List.perm_middle (l₁ := [rowG (.slice ga 1 gc) [(x0, (c0 : Int))], mapC b n D, blkC P (flat qs) 122])))
  clear A2
  generalize hST : addS (some []) (enc 9 nm.size ++ nm.data.toList ++ enc 9 first ++ itemsB items ++ enc 9 1) = st at A
  have LS : Hid (lenS st ≤ 1099517000010) := by
    have h1 := L4.out
    have h2 := enc_len 9 1
    rw [lenS0] at h1
    show _ ≤ _
    rw [← hST, lenS0, List.length_append]
    omega
  have HST := hid hST
  clear hST L2 L3 L4
  go_wp2
  go_loopw [37] (fun jv wr => ∃ (k : Nat) (v' : Value), jv = .int .i64 (k : Int) ∧ k ≤ 1 ∧ Hid (All (wrC B v' (addS st (groupsB ([(x0, (c0 : Int))].take k))) :: rowG (.slice ga 1 gc) [(x0, (c0 : Int))] :: mapC b n D :: blkC P (flat qs) 122 :: ownC 9 (.slice ao items.length cp) (txtV items) :: cs) wr)) (fun jv _ => 1 - (intOf jv).toNat)
  case atStart => exact ⟨0, v5, rfl, by omega, by simpa [groupsB, addS_nil] using A⟩
  case round =>
    obtain ⟨k, v', rfl, hk, AR⟩ := hrel
    clear A
    by_cases hlt : k < 1
    · obtain rfl : k = 0 := by omega
      obtain ⟨g, ea, hg, e0, e1⟩ := rowG_at (AR.out.2.2.1.2.1 : wr.ownsRow 0 164 2 (.slice ga 1 gc) [(x0, (c0 : Int))].length (cellsG [(x0, (c0 : Int))])) (k := 0) (by simp)
      subst ea
      simp only [List.getElem_cons_zero, Nat.zero_mul, Nat.zero_add] at e0 e1
      have AN := hid (AR.out.addBlk [encStr x0, .int .i64 (c0 : Int)] 164)
      clear AR
      go_wp2_with fail
      have A1 := hid (AN.out.swap)
      clear AN
      refine (textW A1.out (strB x0) (by have := LS.out; simp [groupsB, addS_nil, strB, ByteArray.size]; omega)).mono ?_
      rintro e w7 ⟨rfl, v7, A2⟩
      have A2 := hid A2
      clear A1
      have hb : w7.heap[wr.heap.size]? = some (.cells [encStr x0, .int .i64 (c0 : Int)].toArray 164 (0, 0)) := A2.out.blk mem2
      have d1 : w7.cell? ⟨wr.heap.size, 1, none⟩ = some (.int .i64 (c0 : Int)) := by rw [cell_at hb]; rfl
      clear hb
      have L7 : Hid (lenS (addS (addS st (groupsB ([(x0, (c0 : Int))].take 0))) (enc 9 (strB x0).size ++ (strB x0).data.toList)) ≤ 1099520000000) := by
        have h1 := LS.out
        have h2 := enc_len 9 (strB x0).size
        have h3 := lenS_addS (addS st (groupsB ([(x0, (c0 : Int))].take 0))) (enc 9 (strB x0).size ++ (strB x0).data.toList)
        rw [List.length_append, str_len] at h3
        have h4 : (strB x0).size = x0.length := by simp [strB, ByteArray.size]
        have h5 : lenS (addS st (groupsB ([(x0, (c0 : Int))].take 0))) = lenS st := by simp [groupsB, addS_nil]
        show _ ≤ _
        omega
      go_wp2_with fail
      refine (natW A2.out c0 (by omega) (by have := L7.out; omega)).mono ?_
      rintro e w8 ⟨rfl, v8, A3⟩
      have A4 := hid (A3.swap.tail)
      clear A3 A2 d1 L7 e0 e1
      go_wp2
      go_roundw
      case rel =>
        refine ⟨1, v8, by go_num, by omega, ?_⟩
        have e : addS (addS (addS st (groupsB ([(x0, (c0 : Int))].take 0))) (enc 9 (strB x0).size ++ (strB x0).data.toList)) (enc 9 c0) = addS st (groupsB ([(x0, (c0 : Int))].take 1)) := by
          rw [addS_addS, addS_addS]
          congr 1
          simp [groupsB, strB, ByteArray.size]
        have h4 := A4.out
        rw [e] at h4
        exact h4
      case measure => simp [intOf]
    · obtain rfl : k = 1 := by omega
      have e : addS st (groupsB ([(x0, (c0 : Int))].take 1)) = some (slotB nm first items [(x0, (c0 : Int))]) := by
        rw [← HST.out, addS_addS]
        simp [addS, slotB, groupsB]
      rw [e] at AR
      have AR := hid AR.out
      have hlen : (slotB nm first items [(x0, (c0 : Int))]).length ≤ 1099530000000 := by
        have h1 := LS.out
        rw [← HST.out, lenS0] at h1
        have h2 := enc_len 9 x0.length
        have h3 := enc_len 9 c0
        have h4 : (slotB nm first items [(x0, (c0 : Int))]).length = (enc 9 nm.size ++ nm.data.toList ++ enc 9 first ++ itemsB items ++ enc 9 1).length + ((enc 9 x0.length).length + x0.length + (enc 9 c0).length) := by
          simp [slotB, groupsB]; omega
        omega
      clear e
      go_wp2_with fail
      refine (doneW AR.out (by omega)).mono ?_
      rintro e w7 ⟨so, sc, rfl, A2⟩
      have A2 := hid A2
      clear AR
      go_wp2
      go_ret
      refine ⟨so, _, sc, rfl, ?_⟩
      have h1 := (A2.out.swap.tail).swap.tail
      refine h1.perm (List.Perm.cons _ ?_)
      refine List.Perm.trans (l₂ := blkC P (flat qs) 122 :: mapC b n D :: ownC 9 (.slice ao items.length cp) (txtV items) :: cs) (List.Perm.swap _ _ _) (List.Perm.cons _ (List.Perm.swap _ _ _))
end Go.Proofs.YtkcepkehgkkkbaaGreatDoor

namespace Go.Proofs.YtkcepkehgkkkbaaGreatDoor
open Go.RowKit
set_option linter.unusedVariables false

theorem Reads.at_u8 {w : World} {ao : Option Addr} {n c : Nat} {l : List UInt8} (h : Reads w (.slice ao n c) l) (k : Nat) (hk : k < l.length) : ∃ g o, ao = some ⟨g, o, none⟩ ∧ w.cell? ⟨g, o + k, none⟩ = some (.int .u8 ((l.getD k 0).toNat : Int)) := h.at k hk

set_option maxHeartbeats 1600000 in
set_option maxRecDepth 1000000 in
/-- Lists that are alike. -/
theorem same_true {w : World} {s t : Value} {l : List UInt8} (hs : Reads w s l) (ht : Reads w t l) (hlen : l.length ≤ 140737488355328) :
    Calls Tryz.prog 45 #[s, t] w fun e w' => e = .returned (.bool true) ∧ Below w.heap.size w w' := by
  obtain ⟨ao, c, hf⟩ := hs.form
  obtain ⟨ao', c', hf'⟩ := ht.form
  subst hf hf'
  have HS := hid hs
  have HT := hid ht
  clear hs ht
  go_enter Tryz.func45, Tryz.ntmps45
  go_wp2
  go_loopw [5] (fun iv wr => ∃ (k q : Nat), k ≤ l.length ∧ iv = .int .i64 (k : Int) ∧ wr = w.drewN q) (fun iv _ => l.length - (intOf iv).toNat)
  case atStart => exact ⟨0, 0, by omega, rfl, rfl⟩
  case round =>
    obtain ⟨k, q, hk, rfl, rfl⟩ := hrel
    by_cases hlt : k < l.length
    · obtain ⟨g, o, rfl, h1⟩ := HS.out.at_u8 k hlt
      obtain ⟨g', o', rfl, h2⟩ := HT.out.at_u8 k hlt
      generalize (l.getD k 0).toNat = x at h1 h2
      have hb : ((x : Int) != (x : Int)) = false := by simp
      go_wp2
      go_region
      go_wp2
      go_roundw
      case rel => exact ⟨k + 1, q + 1, by omega, by go_num, by simp⟩
      case measure => simp [intOf]; omega
    · go_wp2
      go_ret
      exact ⟨rfl, ⟨rfl, rfl, rfl, Nat.le_refl _, fun _ _ => rfl⟩⟩

set_option maxHeartbeats 1600000 in
set_option maxRecDepth 1000000 in
/-- Texts that are alike. -/
theorem sameTexts_true {w : World} {s t : Value} {l : List ByteArray} (hs : Txts w s l) (ht : Txts w t l) (hlen : l.length ≤ 140737488355328) :
    Calls Tryz.prog 64 #[s, t] w fun e w' => e = .returned (.bool true) ∧ Below w.heap.size w w' := by
  obtain ⟨ao, c, hf⟩ := hs.form
  obtain ⟨ao', c', hf'⟩ := ht.form
  subst hf hf'
  have HS := hid hs
  have HT := hid ht
  clear hs ht
  go_enter Tryz.func64, Tryz.ntmps64
  go_wp2
  go_loopw [5] (fun iv wr => ∃ (k q : Nat), k ≤ l.length ∧ iv = .int .i64 (k : Int) ∧ wr = w.drewN q) (fun iv _ => l.length - (intOf iv).toNat)
  case atStart => exact ⟨0, 0, by omega, rfl, rfl⟩
  case round =>
    obtain ⟨k, q, hk, rfl, rfl⟩ := hrel
    by_cases hlt : k < l.length
    · obtain ⟨g, o, rfl, _, h1⟩ := HS.out.at hlt
      obtain ⟨g', o', rfl, _, h2⟩ := HT.out.at hlt
      generalize l[k] = x at h1 h2
      have hb : (x.toList == x.toList) = true := by simp
      go_wp2
      go_region
      go_wp2
      go_roundw
      case rel => exact ⟨k + 1, q + 1, by omega, by go_num, by simp⟩
      case measure => simp [intOf]; omega
    · go_wp2
      go_ret
      exact ⟨rfl, ⟨rfl, rfl, rfl, Nat.le_refl _, fun _ _ => rfl⟩⟩

set_option maxRecDepth 1000000 in
/-- Results that are alike. -/
theorem sameResult_true {w : World} (c n : Int) {s t : Value} {l : List ByteArray} (hs : Txts w s l) (ht : Txts w t l) (hlen : l.length ≤ 140737488355328) :
    Calls Tryz.prog 17 #[resV c n s, resV c n t] w fun e w' => e = .returned (.bool true) ∧ Below w.heap.size w w' := by
  obtain ⟨ao, cp, hf⟩ := hs.form
  obtain ⟨ao', cp', hf'⟩ := ht.form
  subst hf hf'
  have HS := hid hs
  have HT := hid ht
  clear hs ht
  go_enter Tryz.func17, Tryz.ntmps17
  go_wp2_with fail
  refine (sameTexts_true ((HS.out.alloc _).alloc _) ((HT.out.alloc _).alloc _) hlen).mono ?_
  rintro e w1 ⟨rfl, B1⟩
  have B2 := hid (b2 (b2 (ba w _) (ba _ _)) B1)
  clear B1
  go_wp2
  go_ret
  exact ⟨rfl, B2.out⟩

theorem isFree_any {w : World} {P i : Nat} {nm : ByteArray} (c0 : w.cell? ⟨P, i * 4, none⟩ = some (.string nm)) : Calls Tryz.prog 87 #[.pointer (some ⟨P, i * 4, none⟩)] w fun e w' => e = .returned (.bool nm.toList.isEmpty) ∧ w' = w := by
  go_enter Tryz.func87, Tryz.ntmps87
  go_wp2
  go_ret
  exact ⟨rfl, rfl⟩

set_option maxHeartbeats 1600000 in
set_option maxRecDepth 1000000 in
theorem Slot_one {P i b n : Nat} {qs : List Qv} {nm : ByteArray} {first : Nat} {iv : Value} {items : List ByteArray} {D : DataW Unit} {cs : List Comp} {w : World} (h : All (blkC P (flat qs) 122 :: ownC 9 iv (txtV items) :: mapC b n D :: cs) w) (h8 : qs.length = 8) (hq : qs[i]? = some ⟨nm, first, iv, .map (some b)⟩) (hn : n ≤ 1048576)
    (hne : nm.size ≠ 0) (hnm : nm.size ≤ 1048576) (hfs : first < 1152921504606846976) (hit : bulkT items ≤ 1099511627776) (hil : items.length < 1048576) {x0 : List UInt8} {c0 : Nat} (hx : x0.length ≤ 1048576) (hD : ∀ x, Maps.has D (.string x) = true ↔ x = x0) (hc : leftD D (.string x0) = c0) (hc0 : c0 < 1152921504606846976) (hsz : Maps.size D = 1) :
    Calls Tryz.prog 46 #[.pointer (some ⟨P, 0, none⟩), .int .i64 (i : Int)] w fun e w' => ∃ so sn sc, e = .returned (.slice so sn sc) ∧ All (ownC 5 (.slice so sn sc) (cellsB (slotB nm first items [(x0, (c0 : Int))])) :: blkC P (flat qs) 122 :: ownC 9 iv (txtV items) :: mapC b n D :: cs) w' := by
  have hi8 : i < 8 := by have := (List.getElem?_eq_some_iff.1 hq).1; omega
  have HF := hid (isFree_any (h.q0 List.mem_cons_self hq))
  rw [nonempty nm hne] at HF
  have HB := hid (bytes_one h hq hn hnm hfs hit hil hx hD hc hc0 hsz)
  have i1 : decide ((i : Int) < 0) = false := by simp
  have i2 : decide ((8 : Int) ≤ (i : Int)) = false := by simp; omega
  have i3 : (0 : Int) ≤ (i : Int) := by omega
  have i4 : (i : Int) < 8 := by omega
  clear h hq hD hc
  go_enter Tryz.func46, Tryz.ntmps46
  go_wp2_with fail
  refine HF.out.mono ?_
  rintro e w1 ⟨rfl, rfl⟩
  go_wp2_with fail
  refine HB.out.mono ?_
  rintro e w2 ⟨so, sn, sc, rfl, A2⟩
  have A2 := hid A2
  clear HB HF
  go_wp2
  go_ret
  exact ⟨so, sn, sc, rfl, A2.out⟩
end Go.Proofs.YtkcepkehgkkkbaaGreatDoor
