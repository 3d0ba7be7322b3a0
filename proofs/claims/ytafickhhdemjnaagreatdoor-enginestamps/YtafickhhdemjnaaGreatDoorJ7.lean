import Derived.Test.YtafickhhdemjnaaGreatDoorJ5
import Derived.Test.YtafickhhdemjnaaGreatDoorJ6
import Derived.Sort.OwnSorted
namespace Go.Proofs.YtafickhhdemjnaaGreatDoor
open Go.RowKit Go.Sort
open Go.Maps (Keyed)
set_option linter.unusedVariables false

/-- Texts as lists of bytes. -/
def rawT (l : List ByteArray) : List (List UInt8) := l.map fun t : ByteArray => t.data.toList
theorem rawT_length (l : List ByteArray) : (rawT l).length = l.length := by simp [rawT]
theorem rawT_drop (l : List ByteArray) (j : Nat) : (rawT l).drop j = rawT (l.drop j) := by simp [rawT, List.map_drop]
theorem txtV_enc (l : List ByteArray) : txtV l = (rawT l).map Go.Proofs.encStr := by
  rw [rawT, List.map_map]
  apply List.map_congr_left
  intro t _
  rfl
theorem txtV_ofB (l : List (List UInt8)) : l.map Go.Proofs.encStr = txtV (l.map strB) := by
  rw [txtV, List.map_map]
  apply List.map_congr_left
  intro t _
  rfl
theorem txtV_length (l : List ByteArray) : (txtV l).length = l.length := by simp [txtV]

/-- The items ahead go. -/
theorem del_own {v : Value} {items : List ByteArray} {cs : List Comp} {w : World} {j : Nat} (h : All (ownC 9 v (txtV items) :: cs) w) (h0 : 0 < j) (hj : j ≤ items.length) :
    Calls Tryz.prog 208 #[v, .int .i64 0, .int .i64 (j : Int)] w fun e w' => ∃ so sc, e = .returned (.slice so (items.length - j) sc) ∧ All (ownC 9 (.slice so (items.length - j) sc) (txtV (items.drop j)) :: cs) w' := by
  have ho : w.ownsRow 0 9 1 v (txtV items).length (txtV items) := h.1.2.1
  rcases ho.2 with ⟨rfl, e⟩ | ⟨g, cap, cur, rfl, hg0, hg, hn, hm, hcs, ht⟩
  · rw [txtV_length] at e
    omega
  · rw [txtV_length] at hn ht
    have hglt := (Array.getElem?_eq_some_iff.1 hg).1
    have hl := rawT_length items
    have ht' : cur.toList.take (rawT items).length = (rawT items).map Go.Proofs.encStr := by rw [hl, ← txtV_enc]; simpa using ht
    have hcap : cap ≤ 9223372036854775807 := by unfold maxLen at hm; omega
    have C := Any.slices_Delete_string Tryz.lays24 g 0 cap 0 j (rawT items) w (holds_of_block hg ht') (by omega) hcap (Nat.zero_le _) (by omega)
    rw [hl] at C
    have C2 : Calls Tryz.prog 208 #[.slice (some ⟨g, 0, none⟩) items.length cap, .int .i64 0, .int .i64 (j : Int)] w _ := C
    rw [txtV_length]
    refine C2.mono ?_
    rintro e w' ⟨he, q, rfl⟩
    refine ⟨_, _, by simpa using he, ?_⟩
    simp only [List.take_zero, List.nil_append, Nat.sub_zero]
    have hlen : ((rawT items).drop j ++ List.replicate j []).length = (rawT items).length := by rw [List.length_append, List.length_drop, List.length_replicate]; omega
    have how := ownsRow_sorted (n := q) (os := #[]) (w := w) hlen (Nat.zero_le g) hg (by omega) hm (by omega)
    have hgr : w.grownBy _ (some g) := grownBy_sorted (n := q) (os := #[]) (w := w) (g := g) ((rawT items).drop j ++ List.replicate j []).toArray
    have egrow : ∀ x : World, grow x #[] = x := fun x => by simp [grow]
    rw [egrow] at how hgr
    have how2 : (putRow Go.Proofs.encStr (Sort.ahead w q) g 0 ((rawT items).drop j ++ List.replicate j []).toArray).ownsRow 0 9 1 (.slice (some ⟨g, 0, none⟩) (items.length - j) cap) (txtV (items.drop j)).length (txtV (items.drop j)) := by
      rcases how.2 with ⟨e1, _⟩ | ⟨g', cap', cur', e1, k1, k2, k3, k4, k5, k6⟩
      · cases e1
      · simp only [Value.slice.injEq, Option.some.injEq, Addr.mk.injEq, and_true] at e1
        obtain ⟨rfl, _, rfl⟩ := e1
        have hd : (txtV (items.drop j)).length = items.length - j := by rw [txtV_length, List.length_drop]
        refine ⟨by omega, Or.inr ⟨g, cap, cur', by rw [hd], k1, k2, by omega, k4, k5, ?_⟩⟩
        have k7 := congrArg (List.take (items.length - j)) k6
        rw [hl, List.take_take, Nat.min_eq_left (by omega)] at k7
        rw [hd, Nat.mul_one, k7, List.map_append, rawT_drop, ← txtV_enc, List.take_append_of_le_length (by rw [hd]; omega), List.take_of_length_le (by rw [hd]; omega)]
    refine h.ownGrow (base := 0) how2 (by simpa [Value.ownBlock] using hgr) (Or.inl rfl)

/-- The groups on their way: those that were told have risen. -/
structure TrimR (D0 : DataW Unit) (below : Int) (left : Lit → Bool) (Dr : DataW Unit) : Prop where
  has : ∀ kl, Maps.has Dr kl = Maps.has D0 kl
  val : ∀ kl, Maps.has D0 kl = true → leftD Dr kl = if left kl then leftD D0 kl else max (leftD D0 kl) below
  lt : ∀ kl, left kl = true → Maps.has D0 kl = true
  size : Maps.size Dr = Maps.size D0
theorem TrimR.start (D : DataW Unit) (below : Int) : TrimR D below (Maps.has D) D := ⟨fun _ => rfl, fun kl h => by rw [if_pos h], fun _ h => h, rfl⟩
theorem leftD_put_same {D : DataW Unit} {kl : Lit} (hD : Maps.IsMap D) (hk : WideAt.IsKeyLit kl) (q : IntKind) (c : Int) : leftD (D.put kl (.lit (.int q c))) kl = c := by
  unfold leftD; rw [Maps.atKey_put_same hD hk]
theorem leftD_put_other {D : DataW Unit} {kl x : Lit} (h : x ≠ kl) (d : DataW Unit) : leftD (D.put kl d) x = leftD D x := by
  unfold leftD; rw [Maps.atKey_put_other h]
theorem TrimR.next {D0 Dr : DataW Unit} {below : Int} {left : Lit → Bool} (h : TrimR D0 below left Dr) (ht : Maps.Tidy Dr) {kl : Lit} (hk : WideAt.IsKeyLit kl) (hl : left kl = true) : TrimR D0 below (fun x => left x && !x.sameKey kl) (Dr.put kl (.lit (.int .i64 (max (leftD D0 kl) below)))) := by
  have hhas : Maps.has Dr kl = true := by rw [h.has]; exact h.lt kl hl
  refine ⟨fun x => ?_, fun x hx => ?_, fun x hx => h.lt x (by simp at hx; exact hx.1), ?_⟩
  · by_cases e : x = kl
    · subst e
      rw [Maps.has_put_same ht.isMap hk, h.lt x hl]
    · rw [Maps.has_put_other e]; exact h.has x
  · by_cases e : x = kl
    · subst e
      rw [leftD_put_same ht.isMap hk]
      simp only [has_struck hk]
      simp
    · rw [leftD_put_other e]
      simp only [left_struck e]
      exact h.val x hx
  · rw [Maps.size_put ht, if_pos hhas]
    exact h.size
end Go.Proofs.YtafickhhdemjnaaGreatDoor

namespace Go.Proofs.YtafickhhdemjnaaGreatDoor
open Go.RowKit
open Go.Maps (Keyed)
set_option linter.unusedVariables false

theorem del_at {P : Nat} {qs : List Qv} {i : Nat} {q : Qv} {v : Value} {items : List ByteArray} {cs : List Comp} {w : World} {j : Nat} (h : All (ownC 9 v (txtV items) :: cs) w) (hm : blkC P (flat qs) 159 ∈ cs) (hq : qs[i]? = some q) (h0 : 0 < j) (hj : j ≤ items.length) :
    Calls Tryz.prog 208 #[v, .int .i64 0, .int .i64 (j : Int)] w fun e w' => ∃ so sc, e = .returned (.slice so (items.length - j) sc) ∧ Hid (All (ownC 9 (.slice so (items.length - j) sc) (txtV (items.drop j)) :: cs) w') ∧ w'.cell? ⟨P, i * 4 + 2, none⟩ = some q.iv ∧ w'.cell? ⟨P, i * 4 + 1, none⟩ = some (.int .i64 q.first) ∧ w'.frozen? ⟨P, i * 4 + 2, none⟩ = false ∧ w'.frozen? ⟨P, i * 4 + 1, none⟩ = false ∧ w'.cell? ⟨P, i * 4 + 3, none⟩ = some q.gv :=
  (del_own h h0 hj).mono fun e w' ⟨so, sc, h1, h2⟩ => ⟨so, sc, h1, h2, h2.q2 (List.mem_cons_of_mem _ hm) hq, h2.q1 (List.mem_cons_of_mem _ hm) hq, h2.free4 (qs := qs) (List.mem_cons_of_mem _ hm) _, h2.free4 (qs := qs) (List.mem_cons_of_mem _ hm) _, h2.q3 (List.mem_cons_of_mem _ hm) hq⟩

theorem All.setFI {P : Nat} {qs : List Qv} {cs : List Comp} {w : World} (h : All (blkC P (flat qs) 159 :: cs) w) {i : Nat} {q : Qv} (hq : qs[i]? = some q) (iv : Value) (f : Int) :
    All (blkC P (flat (qs.set i ⟨q.nm, f, iv, q.gv⟩)) 159 :: cs) ((w.setCell ⟨P, i * 4 + 2, none⟩ iv).setCell ⟨P, i * 4 + 1, none⟩ (.int .i64 f)) := by
  have hi : i < qs.length := (List.getElem?_eq_some_iff.1 hq).1
  have h0 := h.setBlk (i * 4 + 2) iv
  have e0 := flat_set (v := iv) (j := 2) (q' := ⟨q.nm, q.first, iv, q.gv⟩) hq (by omega) rfl
  rw [e0] at h0
  have q1 : (qs.set i ⟨q.nm, q.first, iv, q.gv⟩)[i]? = some ⟨q.nm, q.first, iv, q.gv⟩ := by simp [hi]
  have h1 := h0.setBlk (i * 4 + 1) (.int .i64 f)
  rw [flat_set (v := .int .i64 f) (j := 1) (q' := ⟨q.nm, f, iv, q.gv⟩) q1 (by omega) rfl, List.set_set] at h1
  exact h1

set_option maxHeartbeats 6400000 in
set_option maxRecDepth 1000000 in
theorem trim_q {P i b n : Nat} {qs : List Qv} {nm0 : ByteArray} {first : Int} {iv : Value} {items : List ByteArray} {D : DataW Unit} {cs : List Comp} {w : World} (h : All (ownC 9 iv (txtV items) :: mapC b n D :: blkC P (flat qs) 159 :: cs) w) (hq : qs[i]? = some ⟨nm0, first, iv, .map (some b)⟩) (hn : n < 1152921504606846976) (hf0 : 0 ≤ first) (hf1 : first + items.length ≤ 1099511627776) {d : Nat} (hd0 : 0 < d) (hd : d ≤ items.length) {below : Int} (hb : below = first + d) :
    Calls Tryz.prog 186 #[.pointer (some ⟨P, i * 4, none⟩), .int .i64 below] w fun e w' => e = .returned (.tuple #[]) ∧ ∃ v' D', TrimR D below (fun _ => false) D' ∧ All (ownC 9 v' (txtV (items.drop d)) :: mapC b n D' :: blkC P (flat (qs.set i ⟨nm0, below, v', .map (some b)⟩)) 159 :: cs) w' := by
  have hi : i < qs.length := (List.getElem?_eq_some_iff.1 hq).1
  have HQ := hid hq
  have H := hid h.drew
  have C := hid (del_at (w := w.drew) h.drew (List.mem_cons_of_mem _ List.mem_cons_self) hq hd0 hd)
  obtain ⟨ao, c, eo⟩ := owns_form (h.1.2.1 : w.ownsRow 0 9 1 iv (txtV items).length (txtV items))
  rw [txtV_length] at eo
  subst eo
  have s1 : w.cell? ⟨P, i * 4 + 1, none⟩ = some (.int .i64 first) := h.q1 (List.mem_cons_of_mem _ mem2) hq
  have s2 : w.cell? ⟨P, i * 4 + 2, none⟩ = some (.slice ao items.length c) := h.q2 (List.mem_cons_of_mem _ mem2) hq
  have hw1 : IntKind.i64.wrap (below - first) = (d : Int) := by rw [hb]; simp [IntKind.wrap, IntKind.bits, IntKind.signed]; omega
  rw [← hw1] at C
  have HB := hid hb
  clear hb hw1
  clear h hq
  go_enter Tryz.func186, Tryz.ntmps186
  go_wp2_with fail
  go_region_law (go_simp; go_at_call 208; refine C.out.mono ?_; rintro e w3 ⟨so, sc, rfl, A3, t2, t1, f2, f1, t3⟩)
  all_goals (
    clear C H s1 s2
    have A4 := hid ((A3.out.perm (ds := blkC P (flat qs) 159 :: mapC b n D :: ownC 9 (.slice so (items.length - d) sc) (txtV (items.drop d)) :: cs) (List.Perm.trans (List.perm_middle (l₁ := [ownC 9 (.slice so (items.length - d) sc) (txtV (items.drop d)), mapC b n D])) (List.Perm.cons _ (List.Perm.swap _ _ _)))).setFI HQ.out (.slice so (items.length - d) sc) below).swap
    have HO : ((w3.setCell ⟨P, i * 4 + 2, none⟩ (.slice so (items.length - d) sc)).setCell ⟨P, i * 4 + 1, none⟩ (.int .i64 below)).ownsMap Tryz.prog 9 rE b n D := A4.1.2.1
    have A4 := hid A4
    clear A3
    go_wp2_with (first | (at_range; refine wpList_range_own _ rfl _ 154 rfl 9 3 lawS Tryz.und154 _ b n D rfl HO ?_; intro w0 hrg0 hg0 hs0) | go_in)
    have A0 := hid (A4.out.it_start hg0 hs0 hrg0)
    have T0 := hid (TrimR.start D below)
    clear A4 HO hrg0 hg0 hs0 t1 t2 t3 f1 f2
    have hszW : ((w3.setCell ⟨P, i * 4 + 2, none⟩ (.slice so (items.length - d) sc)).setCell ⟨P, i * 4 + 1, none⟩ (.int .i64 below)).heap.size = w3.heap.size := by simp [World.setCell]
    rw [hszW] at A0
    clear hszW
    generalize w3.heap.size = r at A0 ⊢
    (try go_frame)
    go_loopw [] (fun wr => ∃ (left : Lit → Bool) (cnt : Nat) (Dr : DataW Unit), Hid (TrimR D below left Dr) ∧ Hid (All (itC b r n Dr left cnt :: blkC P (flat (qs.set i ⟨nm0, below, .slice so (items.length - d) sc, .map (some b)⟩)) 159 :: ownC 9 (.slice so (items.length - d) sc) (txtV (items.drop d)) :: cs) wr)) (fun wr => wr.rangeLeft b r)
    case atStart => exact ⟨_, _, D, T0, A0⟩
    case round =>
      obtain ⟨left, cnt, Dr, TR, AR⟩ := hrel
      clear T0 A0
      have hrg : wr.ranges Tryz.prog 9 rE b r n Dr left cnt := AR.out.1.2.1
      have HRG := hid hrg
      go_wp2_with (at_next; refine wpList_next_ranges _ rfl _ rfl 9 lawS rE encStr (Value.int .i64) invK9 invV3 b r n _ _ _ rfl hrg ?_ ?_)
      · intro hc0 hl0
        have hle : left = fun _ => false := funext hl0
        subst hle
        clear hc0 hl0 hrg HRG
        go_wp2
        go_end0
        exact ⟨rfl, _, Dr, TR.out, (AR.out.it_end).perm ((List.perm_middle (a := ownC 9 (.slice so (items.length - d) sc) (txtV (items.drop d))) (l₁ := [mapC b n Dr, blkC P (flat (qs.set i ⟨nm0, below, .slice so (items.length - d) sc, .map (some b)⟩)) 159])))⟩
      · intro x c kl yd yp w1 cnt1 hkey hlk hv hat hrg1 hlt hg1 hs1 hen
        obtain ⟨x', ex, rfl, hxl⟩ := keyS_inv hkey
        obtain rfl : x = x' := strB_inj (by simpa [encStr] using ex)
        obtain ⟨c', ec, ey, hwc⟩ := plainElem_int_inv Tryz.underlying3 hv
        cases ec
        simp only [Prod.mk.injEq] at ey
        have hkl : WideAt.IsKeyLit (.string x) := lawS.key hkey
        have hhas : Maps.has Dr (.string x) = true := by rw [TR.out.has]; exact TR.out.lt _ hlk
        have hcv : c = leftD D (.string x) := by
          have h1 := TR.out.val _ (TR.out.lt _ hlk)
          rw [if_pos hlk] at h1
          rw [← h1]
          unfold leftD
          rw [hat, ey.1]
        have htd : Maps.Tidy Dr := hrg.owns.tidy lawS
        have A1 := hid (AR.out.it_turn (Or.inr rfl) hg1 hrg1)
        have c3 : w1.cell? ⟨P, i * 4 + 3, none⟩ = some (.map (some b)) := A1.out.q3 (q := ⟨nm0, below, .slice so (items.length - d) sc, .map (some b)⟩) mem2 (by simp [hi])
        have hmx : n < maxLen := by unfold maxLen; omega
        have HTD := hid htd
        have HKL := hid hkl
        have HLK := hid hlk
        have HCV := hid hcv
        have hwc' : -9223372036854775808 ≤ c ∧ c ≤ 9223372036854775807 := by simpa [Lit.wf, IntKind.min, IntKind.max, IntKind.signed, IntKind.bits] using hwc
        have T2 := hid (TR.out.next htd hkl hlk)
        rw [← hcv] at T2
        clear ex hs1 hg1 AR hrg hkl hat hv ey htd hlk hcv hwc
        have hwf : (Lit.int .i64 (max c below)).wf = true := WalkArith.wf_i64 (by have := HB.out; omega)
        go_wp2_with (at_mapUpdate; refine wpList_store_ranges _ rfl _ _ _ 154 rfl 9 3 lawS Tryz.und154 rE b r n Dr _ cnt1 rfl hrg1 hmx _ _ (.string x) rfl rfl hkey _ [] (plainElem_int Tryz.underlying3 hwf) hhas ?_; intro w2 hrg2 hg2)
        have A2 := hid (A1.out.it_turn (Or.inl rfl) hg2 hrg2)
        have M2 := hid (show w2.rangeLeft b r < wr.rangeLeft b r from by rw [hrg2.left_eq, HRG.out.left_eq]; exact hlt)
        clear hg2 hrg2 A1
        (try go_frame)
        refine ⟨?_, M2.out⟩
        first | exact ⟨_, _, _, T2, A2⟩ | ((repeat apply Exists.intro); exact ⟨⟨_, _, _, T2, A2⟩, rfl⟩))
end Go.Proofs.YtafickhhdemjnaaGreatDoor

namespace Go.Proofs.YtafickhhdemjnaaGreatDoor
open Go.RowKit
set_option linter.unusedVariables false

set_option maxHeartbeats 3200000 in
set_option maxRecDepth 1000000 in
theorem trim_none {P b nb : Nat} {qs : List Qv} {cs : List Comp} {w : World} {i : Nat} {nm0 : ByteArray} {first : Int} {iv : Value} {D : DataW Unit} {items : List ByteArray} (h : All (blkC P (flat qs) 159 :: ownC 9 iv (txtV items) :: mapC b nb D :: cs) w) (h8 : qs.length = 8) (hq : qs[i]? = some ⟨nm0, first, iv, .map (some b)⟩) (hl : items.length ≤ 32) (hf0 : 0 ≤ first) (hf1 : first + items.length ≤ 1099511627776) (hnb : nb < 1152921504606846976) (k : Int) (nm tx : ByteArray) (n m : Int) (hn0 : 0 ≤ n) (hn1 : n ≤ 1099511627776) (hle : n ≤ first ∨ items = []) :
    Calls Tryz.prog 152 #[.pointer (some ⟨P, 0, none⟩), .int .i64 i, opV k nm tx n m] w fun e w' => e = .returned (.tuple #[resV 0 0 (.slice none 0 0), .int .i64 (-1)]) ∧ All (blkC P (flat qs) 159 :: ownC 9 iv (txtV items) :: mapC b nb D :: cs) w' := by
  have hi8 : i < 8 := by have := (List.getElem?_eq_some_iff.1 hq).1; omega
  obtain ⟨ao, c, eo⟩ := owns_form (h.2.2.1.2.1 : w.ownsRow 0 9 1 iv (txtV items).length (txtV items))
  rw [txtV_length] at eo
  subst eo
  have hsz : (w.alloc (opB k nm tx n m)).heap.size = w.heap.size + 1 := by simp
  have H1 := hid (((h.alloc (opB k nm tx n m)).addBlk [.int .i64 0, .int .i64 0, .slice none 0 0] 56))
  rw [hsz] at H1
  clear hsz
  have HO := heap_alloc_new w (opB k nm tx n m)
  have o3 : ((w.alloc (opB k nm tx n m)).alloc (.cells [Value.int .i64 0, .int .i64 0, .slice none 0 0].toArray 56)).cell? ⟨w.heap.size, 3, none⟩ = some (.int .i64 n) := cell_under (ba _ _) (by simp) (by rw [cell_at HO]; rfl)
  have HQ := hid hq
  have i1 : (0 : Int) ≤ (i : Int) := by omega
  have i2 : (i : Int) < 8 := by omega
  have i3 : ¬ (i : Int) < 0 := by omega
  have hmm : min n (first + (items.length : Int)) ≤ first := by
    rcases hle with hle | rfl
    · omega
    · simp; omega
  have hml : -1099511627776 ≤ min n (first + (items.length : Int)) := by omega
  clear hle
  clear h hq HO
  generalize hW : (w.alloc (opB k nm tx n m)).alloc (.cells [Value.int .i64 0, .int .i64 0, .slice none 0 0].toArray 56) = w1 at H1 o3
  have o3d : w1.drew.cell? ⟨w.heap.size, 3, none⟩ = some (.int .i64 n) := o3
  have E : Hid (Calls Tryz.prog 185 #[.pointer (some ⟨P, i * 4, none⟩)] w1.drew fun e w' => e = .returned (.int .i64 (first + (items.length : Int))) ∧ Hid (All (blkC (w.heap.size + 1) [.int .i64 0, .int .i64 0, .slice none 0 0] 56 :: blkC P (flat qs) 159 :: ownC 9 (.slice ao items.length c) (txtV items) :: mapC b nb D :: cs) w') ∧ w'.cell? ⟨w.heap.size, 3, none⟩ = some (.int .i64 n)) := hid ((end_q (w := w1.drew) (i := i) (P := P) (H1.out.drew.q1 mem2 HQ.out) (H1.out.drew.q2 mem2 HQ.out) hf0 (by simp only; omega)).mono fun e w' ⟨h1, q, h2⟩ => ⟨h1, by rw [h2]; exact H1.out.drew.drewN q, by rw [h2]; exact o3⟩)
  go_enter Tryz.func152, Tryz.ntmps152
  go_wp2
  go_region_law (go_simp; go_at_call 185; refine E.out.mono ?_; rintro e w2 ⟨rfl, H2, o3w⟩)
  all_goals (
    clear H1 E o3 o3d o3w hW
    have s1 := H2.out.q1 mem2 HQ.out
    simp only at s1
    generalize min n (first + (items.length : Int)) = below at *
    have em : decide (below - first ≤ 0) = true := by simp; omega
    have r0 := H2.out.r0
    have r1 := H2.out.r1
    have r2 := H2.out.r2
    have g0 := H2.out.rf 0
    have g1 := H2.out.rf 1
    have g2 := H2.out.rf 2
    have AE := hid (H2.out.setR (.int .i64 0) (.int .i64 0) (.slice none 0 0))
    clear H2 
    go_wp2
    generalize (((w2.setCell ⟨w.heap.size + 1, 0, none⟩ (.int .i64 0)).setCell ⟨w.heap.size + 1, 1, none⟩ (.int .i64 0)).setCell ⟨w.heap.size + 1, 2, none⟩ (.slice none 0 0)) = we at AE ⊢
    clear r0 r1 r2
    have r0 := AE.out.r0
    have r1 := AE.out.r1
    have r2 := AE.out.r2
    refine bodyPost_ret (v := .tuple #[resV 0 0 (.slice none 0 0), .int .i64 (-1)]) (by rw [results_cell_tmp (fn := Tryz.f152) (p := 6) (u := 7) (ty := 56) rfl]; go_simp) rfl ?_
    exact ⟨rfl, AE.out.tail⟩)

set_option maxHeartbeats 3200000 in
set_option maxRecDepth 1000000 in
theorem trim_some {P b nb : Nat} {qs : List Qv} {cs : List Comp} {w : World} {i : Nat} {nm0 : ByteArray} {first : Int} {iv : Value} {D : DataW Unit} {items : List ByteArray} (h : All (blkC P (flat qs) 159 :: ownC 9 iv (txtV items) :: mapC b nb D :: cs) w) (h8 : qs.length = 8) (hq : qs[i]? = some ⟨nm0, first, iv, .map (some b)⟩) (hl : items.length ≤ 32) (hf0 : 0 ≤ first) (hf1 : first + items.length ≤ 1099511627776) (hnb : nb < 1152921504606846976) (k : Int) (nm tx : ByteArray) (n m : Int) (hn0 : 0 ≤ n) (hn1 : n ≤ 1099511627776) (hlt : first < n) (hne : 0 < items.length) :
    Calls Tryz.prog 152 #[.pointer (some ⟨P, 0, none⟩), .int .i64 i, opV k nm tx n m] w fun e w' => ∃ v' D' d, e = .returned (.tuple #[resV 0 (d : Nat) (.slice none 0 0), .int .i64 i]) ∧ first + (d : Int) = min n (first + items.length) ∧ 0 < d ∧ d ≤ items.length ∧ TrimR D (first + (d : Int)) (fun _ => false) D' ∧ All (blkC P (flat (qs.set i ⟨nm0, first + (d : Int), v', .map (some b)⟩)) 159 :: ownC 9 v' (txtV (items.drop d)) :: mapC b nb D' :: cs) w' := by
  have hi8 : i < 8 := by have := (List.getElem?_eq_some_iff.1 hq).1; omega
  obtain ⟨ao, c, eo⟩ := owns_form (h.2.2.1.2.1 : w.ownsRow 0 9 1 iv (txtV items).length (txtV items))
  rw [txtV_length] at eo
  subst eo
  have hsz : (w.alloc (opB k nm tx n m)).heap.size = w.heap.size + 1 := by simp
  have H1 := hid (((h.alloc (opB k nm tx n m)).addBlk [.int .i64 0, .int .i64 0, .slice none 0 0] 56))
  rw [hsz] at H1
  clear hsz
  have HO := heap_alloc_new w (opB k nm tx n m)
  have o3 : ((w.alloc (opB k nm tx n m)).alloc (.cells [Value.int .i64 0, .int .i64 0, .slice none 0 0].toArray 56)).cell? ⟨w.heap.size, 3, none⟩ = some (.int .i64 n) := cell_under (ba _ _) (by simp) (by rw [cell_at HO]; rfl)
  have HQ := hid hq
  have i1 : (0 : Int) ≤ (i : Int) := by omega
  have i2 : (i : Int) < 8 := by omega
  have i3 : ¬ (i : Int) < 0 := by omega
  obtain ⟨d, hd⟩ : ∃ d : Nat, Hid (min n (first + (items.length : Int)) = first + (d : Int) ∧ 0 < d ∧ d ≤ items.length) := ⟨(min n (first + (items.length : Int)) - first).toNat, hid ⟨by omega, by omega, by omega⟩⟩
  clear h hq HO
  generalize hW : (w.alloc (opB k nm tx n m)).alloc (.cells [Value.int .i64 0, .int .i64 0, .slice none 0 0].toArray 56) = w1 at H1 o3
  have o3d : w1.drew.cell? ⟨w.heap.size, 3, none⟩ = some (.int .i64 n) := o3
  have E : Hid (Calls Tryz.prog 185 #[.pointer (some ⟨P, i * 4, none⟩)] w1.drew fun e w' => e = .returned (.int .i64 (first + (items.length : Int))) ∧ Hid (All (blkC (w.heap.size + 1) [.int .i64 0, .int .i64 0, .slice none 0 0] 56 :: blkC P (flat qs) 159 :: ownC 9 (.slice ao items.length c) (txtV items) :: mapC b nb D :: cs) w') ∧ w'.cell? ⟨w.heap.size, 3, none⟩ = some (.int .i64 n)) := hid ((end_q (w := w1.drew) (i := i) (P := P) (H1.out.drew.q1 mem2 HQ.out) (H1.out.drew.q2 mem2 HQ.out) hf0 (by simp only; omega)).mono fun e w' ⟨h1, q, h2⟩ => ⟨h1, by rw [h2]; exact H1.out.drew.drewN q, by rw [h2]; exact o3⟩)
  go_enter Tryz.func152, Tryz.ntmps152
  go_wp2
  go_region_law (go_simp; go_at_call 185; refine E.out.mono ?_; rintro e w2 ⟨rfl, H2, o3w⟩)
  all_goals (
    clear H1 E o3 o3d o3w hW
    have s1 := H2.out.q1 mem2 HQ.out
    simp only at s1
    rw [hd.out.1]
    obtain ⟨below, hbel⟩ : ∃ below : Int, Hid (below = first + (d : Int)) := ⟨_, hid rfl⟩
    rw [← hbel.out]
    have hd2 := hd.out.2.2
    have hd3 := hd.out.2.1
    have em : decide (below - first ≤ 0) = false := by have := hbel.out; simp; omega
    have b1 : 0 ≤ below := by have := hbel.out; omega
    have b2 : below ≤ 1099511627776 := by have := hbel.out; omega
    have hsub : below - first = (d : Int) := by have := hbel.out; omega
    have A2 := hid (H2.out.perm (ds := ownC 9 (.slice ao items.length c) (txtV items) :: mapC b nb D :: blkC P (flat qs) 159 :: blkC (w.heap.size + 1) [.int .i64 0, .int .i64 0, .slice none 0 0] 56 :: cs) (by
      have := List.perm_append_comm (l₁ := [blkC (w.heap.size + 1) [.int .i64 0, .int .i64 0, .slice none 0 0] 56, blkC P (flat qs) 159]) (l₂ := [ownC 9 (.slice ao items.length c) (txtV items), mapC b nb D])
      exact (this.append_right cs).trans (List.Perm.cons _ (List.Perm.cons _ (List.Perm.swap _ _ _)))))
    clear H2
    go_wp2_with fail
    refine (trim_q A2.out HQ.out hnb hf0 hf1 hd3 hd2 hbel.out).mono ?_
    rintro e w5 ⟨rfl, v', D', T5, A5⟩
    have A6 := hid (A5.perm (ds := blkC (w.heap.size + 1) [.int .i64 0, .int .i64 0, .slice none 0 0] 56 :: blkC P (flat (qs.set i ⟨nm0, below, v', .map (some b)⟩)) 159 :: ownC 9 v' (txtV (items.drop d)) :: mapC b nb D' :: cs) (by
      have := List.perm_append_comm (l₁ := [ownC 9 v' (txtV (items.drop d)), mapC b nb D']) (l₂ := [blkC P (flat (qs.set i ⟨nm0, below, v', .map (some b)⟩)) 159, blkC (w.heap.size + 1) [.int .i64 0, .int .i64 0, .slice none 0 0] 56])
      exact (this.append_right cs).trans (List.Perm.swap _ _ _)))
    have T5 := hid T5
    clear A5 A2 s1
    have r0 := A6.out.r0
    have r1 := A6.out.r1
    have r2 := A6.out.r2
    have g0 := A6.out.rf 0
    have g1 := A6.out.rf 1
    have g2 := A6.out.rf 2
    have AE := hid (A6.out.setR (.int .i64 0) (.int .i64 (d : Int)) (.slice none 0 0))
    clear A6 
    go_wp2
    generalize (((w5.setCell ⟨w.heap.size + 1, 0, none⟩ (.int .i64 0)).setCell ⟨w.heap.size + 1, 1, none⟩ (.int .i64 (d : Int))).setCell ⟨w.heap.size + 1, 2, none⟩ (.slice none 0 0)) = we at AE ⊢
    clear r0 r1 r2
    have r0 := AE.out.r0
    have r1 := AE.out.r1
    have r2 := AE.out.r2
    refine bodyPost_ret (v := .tuple #[resV 0 (d : Int) (.slice none 0 0), .int .i64 i]) (by rw [results_cell_tmp (fn := Tryz.f152) (p := 6) (u := 7) (ty := 56) rfl]; go_simp) rfl ?_
    rw [hbel.out] at T5 AE
    exact ⟨v', D', d, rfl, hd.out.1.symm, hd3, hd2, T5.out, AE.out.tail⟩)

end Go.Proofs.YtafickhhdemjnaaGreatDoor

namespace Go.Proofs.YtafickhhdemjnaaGreatDoor
open Go.RowKit
set_option linter.unusedVariables false

theorem txtV_one (l : List ByteArray) : ∀ u ∈ txtV l, u.oneCell' = true := by
  intro u hu
  obtain ⟨_, _, rfl⟩ := List.mem_map.1 hu
  rfl

set_option maxHeartbeats 800000 in
set_option maxRecDepth 1000000 in
theorem tclone_some {w : World} (a : Addr) (c : Nat) (l : List ByteArray) (hc : ∀ j u, (txtV l)[j]? = some u → w.cell? (a.add j) = some u) (hg : l ≠ [] → ∃ g o, a = ⟨g, o, none⟩ ∧ g < w.heap.size) (hlen : l.length ≤ 1000) :
    Calls Tryz.prog 121 #[.slice (some a) l.length c] w fun e w' => ∃ s', e = .returned s' ∧ w'.ownsRow w.heap.size 9 1 s' l.length (txtV l) ∧ Below w.heap.size w w' := by
  obtain ⟨i0, hi, hz0, hz1, hz2⟩ := info_parts Tryz.info9
  have he := fun w => Lib.run_eql_slice_nil (P := Tryz.prog) w 54 9 (some a) l.length c 0 0 Tryz.underlying54
  have hnews : ∀ j u, (txtV l)[j]? = some u → (w.alloc (.cells #[] 9)).cell? (a.add j) = some u := by
    intro j u hu
    have hne : l ≠ [] := by rintro rfl; simp [txtV] at hu
    obtain ⟨g, o, rfl, hgl⟩ := hg hne
    have := hc j u hu
    rw [Addr.add_lit] at this ⊢
    rw [World.cell?_alloc_past _ _ _ hgl]
    exact this
  clear hc hg
  have h0 : (w.alloc (.cells #[] 9)).ownsRow w.heap.size 9 1 (.slice (some ⟨w.heap.size, 0, none⟩) 0 0) 0 [] := World.ownsRow_made w #[] 0 (Nat.le_refl _) (by unfold maxLen; omega) rfl
  go_enter Tryz.func121, Tryz.ntmps121
  go_wp2_with (at_builtin; refine wpList_append_own_at _ rfl (.tmp 5) (.tmp 6) 54 rfl w.heap.size 9 i0 (.string (.mk #[])) 1 16 Tryz.underlying54 hi hz0 hz1 hz2 rfl (by decide) _ _ _ rfl h0 a l.length c (txtV l) rfl (by rw [txtV_length]; omega) hnews (txtV_one _) (by unfold maxLen; omega) (by omega) (by simp) ?_)
  intro v' w1 hown hgr hnil hat
  have R : Hid (w1.ownsRow w.heap.size 9 1 v' l.length (txtV l) ∧ Below w.heap.size w w1) := by
    refine ⟨by simpa using hown, ((Below.refl _ _).alloc (Nat.le_refl _) _).grown hgr (by simp) (fun k hk => ?_)⟩
    simp [Value.ownBlock] at hk
    omega
  clear hown hgr hnil hat h0
  go_wp2
  go_ret
  exact ⟨v', rfl, R.out.1, R.out.2⟩

set_option maxHeartbeats 800000 in
set_option maxRecDepth 1000000 in
theorem tclone_none {w : World} (c : Nat) :
    Calls Tryz.prog 121 #[.slice none 0 c] w fun e w' => e = .returned (.slice none 0 0) ∧ w' = w := by
  have he := fun w => Lib.run_eql_slice_nil (P := Tryz.prog) w 54 9 none 0 c 0 0 Tryz.underlying54
  go_enter Tryz.func121, Tryz.ntmps121
  go_wp2
  go_ret
  exact ⟨rfl, rfl⟩

theorem tclone_any {w : World} {s : Value} {l : List ByteArray} (h : Txts w s l) (hlen : l.length ≤ 1000) :
    Calls Tryz.prog 121 #[s] w fun e w' => ∃ s', e = .returned s' ∧ w'.ownsRow w.heap.size 9 1 s' l.length (txtV l) ∧ Below w.heap.size w w' := by
  obtain ⟨ao, c, rfl, hc, hx⟩ := h
  have hx' : (l = [] ∧ ao = none) ∨ ∃ a, ao = some a ∧ (l ≠ [] → ∃ g o, a = ⟨g, o, none⟩ ∧ g < w.heap.size) ∧ ∀ j u, (txtV l)[j]? = some u → w.cell? (a.add j) = some u := by
    rcases hx with rfl | ⟨g, o, rfl, hg, hcell⟩
    · cases ao with
      | none => exact .inl ⟨rfl, rfl⟩
      | some a => exact .inr ⟨a, rfl, fun h => absurd rfl h, fun j u hu => by simp [txtV] at hu⟩
    · refine .inr ⟨_, rfl, fun _ => ⟨_, _, rfl, hg⟩, fun j u hu => ?_⟩
      simp only [txtV, List.getElem?_map] at hu
      obtain ⟨x, hx, rfl⟩ := Option.map_eq_some_iff.1 hu
      obtain ⟨hj, rfl⟩ := List.getElem?_eq_some_iff.1 hx
      rw [Addr.add_lit]
      exact hcell j hj
  rcases hx' with ⟨rfl, rfl⟩ | ⟨a, rfl, hg, hcell⟩
  · refine (tclone_none c).mono ?_
    rintro e w' ⟨rfl, rfl⟩
    exact ⟨_, rfl, World.ownsRow_nil _ _ _ _, Below.refl _ _⟩
  · exact tclone_some a c l hcell hg hlen

end Go.Proofs.YtafickhhdemjnaaGreatDoor
