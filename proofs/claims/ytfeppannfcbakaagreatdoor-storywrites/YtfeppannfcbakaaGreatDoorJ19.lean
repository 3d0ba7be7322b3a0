import Derived.Test.YtfeppannfcbakaaGreatDoorEw2
import Derived.Test.YtfeppannfcbakaaGreatDoorEw3
import Derived.Test.YtfeppannfcbakaaGreatDoorJ5
namespace Go.Proofs.YtfeppannfcbakaaGreatDoor
open Go.RowKit
set_option linter.unusedVariables false
set_option maxRecDepth 100000

/-- All numbers of an event. -/
def Ev.nums (e : Ev) : List Int := [e.a, e.nb, e.nm, e.wh, e.cd, e.ec, e.en, e.l0, e.l2, e.l3, e.l4, e.l5, e.l6, e.l7, e.sn, e.sa]
def numV (l : List Int) : List Value := l.map fun n => Value.int .i64 n
set_option maxHeartbeats 3200000 in
set_option maxRecDepth 1000000 in
theorem numbers_any (e : Ev) {cs : List Comp} {w : World} (A : All cs w) : Calls Tryz.prog 96 #[.agg e.cells.toArray] w fun r w' => ∃ g, r = .returned (.slice (some ⟨g, 0, none⟩) 16 16) ∧ All (blkC g (numV e.nums) 3 :: cs) w' := by
  have A0 := hid (A.addBlk e.cells 36)
  have I31 : Hid ((Tryz.prog.info? 31).map (·.size) = some 8) := hid (by kernel_rfl)
  have R0 : Hid ((w.alloc (.cells e.cells.toArray 36)).rangeAt w.heap.size 22 [.int .i64 e.l0, .int .i64 e.l1, .int .i64 e.l2, .int .i64 e.l3, .int .i64 e.l4, .int .i64 e.l5, .int .i64 e.l6, .int .i64 e.l7]) := hid (range_in A0.out (List.mem_cons_self) (fun j v hv => by
    have hj : j < 8 := (List.getElem?_eq_some_iff.1 hv).1
    obtain rfl | rfl | rfl | rfl | rfl | rfl | rfl | rfl : j = 0 ∨ j = 1 ∨ j = 2 ∨ j = 3 ∨ j = 4 ∨ j = 5 ∨ j = 6 ∨ j = 7 := by omega
    all_goals exact hv))
  go_enter Tryz.func96, Tryz.ntmps96
  go_upto_region 1 with fail
  generalize w.alloc (.cells e.cells.toArray 36) = w0 at *
  go_upto_region 2 with (first | (refine wpList_load_mid rfl 31 _ rfl w.heap.size 22 rfl [.int .i64 e.l0, .int .i64 e.l1, .int .i64 e.l2, .int .i64 e.l3, .int .i64 e.l4, .int .i64 e.l5, .int .i64 e.l6, .int .i64 e.l7] _ R0.out Tryz.underlying31 rfl I31.out ?_) | (refine wpList_store_row rfl 31 _ _ rfl w0.heap.size #[.int .i64 e.l0, .int .i64 e.l1, .int .i64 e.l2, .int .i64 e.l3, .int .i64 e.l4, .int .i64 e.l5, .int .i64 e.l6, .int .i64 e.l7] rfl rfl 31 _ (heap_alloc_new w0 _) I31.out rfl rfl ?_; rw [World.setRow_alloc_new]))
  have A1 := hid (A0.out.addBlk [.int .i64 e.l0, .int .i64 e.l1, .int .i64 e.l2, .int .i64 e.l3, .int .i64 e.l4, .int .i64 e.l5, .int .i64 e.l6, .int .i64 e.l7] 31)
  change Code.wp _ _ _ _ (w0.alloc (.cells ([.int .i64 e.l0, .int .i64 e.l1, .int .i64 e.l2, .int .i64 e.l3, .int .i64 e.l4, .int .i64 e.l5, .int .i64 e.l6, .int .i64 e.l7] : List Value).toArray 31))
  generalize w0.alloc (.cells ([.int .i64 e.l0, .int .i64 e.l1, .int .i64 e.l2, .int .i64 e.l3, .int .i64 e.l4, .int .i64 e.l5, .int .i64 e.l6, .int .i64 e.l7] : List Value).toArray 31) = w1 at *
  generalize w0.heap.size = KB at *
  have c_a := cell_in (P := w.heap.size) (o := 1) (v := .int .i64 e.a) A1.out (List.mem_cons_of_mem _ (List.mem_cons_self)) rfl
  have c_nb := cell_in (P := w.heap.size) (o := 2) (v := .int .i64 e.nb) A1.out (List.mem_cons_of_mem _ (List.mem_cons_self)) rfl
  have c_nm := cell_in (P := w.heap.size) (o := 3) (v := .int .i64 e.nm) A1.out (List.mem_cons_of_mem _ (List.mem_cons_self)) rfl
  have c_wh := cell_in (P := w.heap.size) (o := 4) (v := .int .i64 e.wh) A1.out (List.mem_cons_of_mem _ (List.mem_cons_self)) rfl
  have c_cd := cell_in (P := w.heap.size) (o := 5) (v := .int .i64 e.cd) A1.out (List.mem_cons_of_mem _ (List.mem_cons_self)) rfl
  have c_ec := cell_in (P := w.heap.size) (o := 12) (v := .int .i64 e.ec) A1.out (List.mem_cons_of_mem _ (List.mem_cons_self)) rfl
  have c_en := cell_in (P := w.heap.size) (o := 13) (v := .int .i64 e.en) A1.out (List.mem_cons_of_mem _ (List.mem_cons_self)) rfl
  have c_l0 := cell_in (P := KB) (o := 0) (v := .int .i64 e.l0) A1.out (List.mem_cons_self) rfl
  have c_l2 := cell_in (P := KB) (o := 2) (v := .int .i64 e.l2) A1.out (List.mem_cons_self) rfl
  have c_l3 := cell_in (P := KB) (o := 3) (v := .int .i64 e.l3) A1.out (List.mem_cons_self) rfl
  have c_l4 := cell_in (P := KB) (o := 4) (v := .int .i64 e.l4) A1.out (List.mem_cons_self) rfl
  have c_l5 := cell_in (P := KB) (o := 5) (v := .int .i64 e.l5) A1.out (List.mem_cons_self) rfl
  have c_l6 := cell_in (P := KB) (o := 6) (v := .int .i64 e.l6) A1.out (List.mem_cons_self) rfl
  have c_l7 := cell_in (P := KB) (o := 7) (v := .int .i64 e.l7) A1.out (List.mem_cons_self) rfl
  have c_sn := cell_in (P := w.heap.size) (o := 30) (v := .int .i64 e.sn) A1.out (List.mem_cons_of_mem _ (List.mem_cons_self)) rfl
  have c_sa := cell_in (P := w.heap.size) (o := 31) (v := .int .i64 e.sa) A1.out (List.mem_cons_of_mem _ (List.mem_cons_self)) rfl
  have KF := hid (A1.out.addBlk (numV e.nums) 3)
  clear R0 A0 A
  go_wp2
  go_ret
  exact ⟨_, rfl, ((KF.out.swap.tail).swap.tail)⟩
end Go.Proofs.YtfeppannfcbakaaGreatDoor

namespace Go.Proofs.YtfeppannfcbakaaGreatDoor
open Go.RowKit
set_option linter.unusedVariables false
set_option maxRecDepth 100000

def Ev.numsOk (e : Ev) : Bool := e.nums.all fun n => decide (0 ≤ n)
def Ev.stOk (e : Ev) : Bool := !(decide (e.k = 7) || decide (e.k = 10)) || (decide (1 ≤ e.l1) && decide (e.l1 ≤ 3))
set_option maxHeartbeats 3200000 in
theorem okL_plain {e : Ev} (hk : 1 ≤ e.k ∧ e.k ≤ 11) (hO : e.left.empty = true) : okL (kindT e.k) e.cells = (decide (e.dik ≤ 2304) && e.numsOk && e.stOk) := by
  rw [Bool.eq_iff_iff]
  obtain hk | hk | hk | hk | hk | hk | hk | hk | hk | hk | hk : e.k = 1 ∨ e.k = 2 ∨ e.k = 3 ∨ e.k = 4 ∨ e.k = 5 ∨ e.k = 6 ∨ e.k = 7 ∨ e.k = 8 ∨ e.k = 9 ∨ e.k = 10 ∨ e.k = 11 := by omega
  all_goals
    simp [Ev.left, hk, Ev.empty, Ev.z_a, Ev.z_nb, Ev.z_nm, Ev.z_wh, Ev.z_cd, Ev.z_fr, Ev.z_op, Ev.z_en, Ev.z_lk, Ev.z_rc, Ev.z_rn, Ev.z_rk, Ev.z_sn, Ev.z_sa, Ev.z_dk] at hO
    simp only [Ev.numsOk, Ev.nums, Ev.stOk, hk, List.all_cons, List.all_nil]
    simp [kindT, okL, okT, okF, ok1, sub, lookL, shtL, clr, clrF, clr1, valI, lenS, Ev.cells, hO]
  all_goals omega
theorem inForm_plain (e : Ev) : e.inForm = if e.k < 1 ∨ 11 < e.k then false else if e.left.empty = false then false else if 2304 < e.dik then false else if e.numsOk = false then false else e.stOk := by
  unfold Ev.inForm
  split
  · rfl
  · rename_i h
    split
    · rename_i h2; simp [h2]
    · rename_i h2
      have h2' : e.left.empty = true := by simpa using h2
      rw [okL_plain (by omega) h2', h2']
      split
      · rename_i h3
        have : decide (e.dik ≤ 2304) = false := by simp; omega
        simp [this]
      · rename_i h3
        have : decide (e.dik ≤ 2304) = true := by simp; omega
        rw [this]
        split
        · rename_i h4; simp [h4]
        · rename_i h4; simp at h4; simp [h4]
end Go.Proofs.YtfeppannfcbakaaGreatDoor

namespace Go.Proofs.YtfeppannfcbakaaGreatDoor
open Go.RowKit
set_option linter.unusedVariables false
set_option maxRecDepth 100000

theorem wordN_ne {k : Int} (h : ¬ (k < 1 ∨ 11 < k)) : ¬ wordN k = [] := by
  obtain rfl | rfl | rfl | rfl | rfl | rfl | rfl | rfl | rfl | rfl | rfl : k = 1 ∨ k = 2 ∨ k = 3 ∨ k = 4 ∨ k = 5 ∨ k = 6 ∨ k = 7 ∨ k = 8 ∨ k = 9 ∨ k = 10 ∨ k = 11 := by omega
  all_goals decide
theorem statN_ne {k : Int} : (statN k = []) ↔ ¬ (1 ≤ k ∧ k ≤ 3) := by
  constructor
  · intro h hk
    obtain rfl | rfl | rfl : k = 1 ∨ k = 2 ∨ k = 3 := by omega
    all_goals exact absurd h (by decide)
  · intro h
    unfold statN
    rw [if_pos (by omega)]
theorem str_eqN {x : List UInt8} (h : ¬ x = []) : ((⟨x.toArray⟩ : ByteArray).toList == (⟨#[]⟩ : ByteArray).toList) = false ∧ ((⟨x.toArray⟩ : ByteArray).toList == []) = false := by
  obtain ⟨h1, h2⟩ := str_no h
  exact ⟨by simpa [bne] using h1, by simpa [bne] using h2⟩
set_option maxHeartbeats 6400000 in
set_option maxRecDepth 1000000 in
theorem rplain_any (e : Ev) {cs : List Comp} {w : World} (A : All cs w) : Calls Tryz.prog 59 #[.agg e.cells.toArray] w fun r w' => r = .returned (.bool e.inForm) ∧ All cs w' := by
  have A0 := hid (A.addBlk e.cells 36)
  have CW := hid (fun W => word_any e.k W)
  have CL := hid (fun W => left_any e W)
  have CC := hid (fun W => clear_any e.left W)
  have CN := hid (fun W (h : All (blkC w.heap.size e.cells 36 :: cs) W) => numbers_any e h)
  have CS := hid (fun W => status_any e.l1 W)
  have I36 : Hid ((Tryz.prog.info? 36).map (·.size) = some e.cells.toArray.size) := hid (by kernel_rfl)
  have PR : Hid (∀ W ds, All (blkC w.heap.size e.cells 36 :: ds) W → W.cell? ⟨w.heap.size, 0, none⟩ = some (.int .i64 e.k) ∧ W.cell? ⟨w.heap.size, 23, none⟩ = some (.int .i64 e.l1) ∧ W.cell? ⟨w.heap.size, 32, none⟩ = some (.slice e.dia e.dik e.dic)) := hid (fun W ds h => ⟨cell_in h (List.mem_cons_self) rfl, cell_in h (List.mem_cons_self) rfl, cell_in h (List.mem_cons_self) rfl⟩)
  have HBB : Hid (∀ W ds, All (blkC w.heap.size e.cells 36 :: ds) W → W.heap[w.heap.size]? = some (.cells e.cells.toArray 36 (0, 0))) := hid (fun W ds h => h.blk (List.mem_cons_self))
  have EF := hid (inForm_plain e)
  clear A
  by_cases h1 : e.k < 1 ∨ 11 < e.k
  · have EV : Hid (e.inForm = false) := hid (by rw [EF.out, if_pos h1])
    have ew : wordN e.k = [] := by unfold wordN; rw [if_pos h1]
    rw [ew] at CW
    clear ew h1 EF CL CC CN CS I36
    generalize e.cells = EC at *
    go_enter Tryz.func59, Tryz.ntmps59
    go_upto_region 1 with fail
    generalize w.alloc (.cells EC.toArray 36) = w0 at *
    obtain ⟨p0, p1, p2⟩ := PR.out _ _ A0.out
    go_wp2_with (go_at_call 60; refine (CW.out _).mono ?_; rintro r w1 ⟨rfl, B1⟩; have K1 := hid (A0.out.later B1); clear B1)
    go_ret
    exact ⟨by rw [EV.out]; rfl, K1.out.tail⟩
  · obtain ⟨hw1, hw2⟩ := str_eqN (wordN_ne h1)
    generalize ByteArray.mk (wordN e.k).toArray = WX at *
    by_cases h2 : e.left.empty = false
    · have EV : Hid (e.inForm = false) := hid (by rw [EF.out, if_neg h1, if_pos h2])
      rw [h2] at CC
      clear h2 h1 EF CN CS
      generalize e.left.cells = LC at *
      generalize e.cells = EC at *
      go_enter Tryz.func59, Tryz.ntmps59
      go_upto_region 1 with fail
      generalize w.alloc (.cells EC.toArray 36) = w0 at *
      obtain ⟨p0, p1, p2⟩ := PR.out _ _ A0.out
      go_wp2_with (first | (go_at_call 60; refine (CW.out _).mono ?_; rintro r w1 ⟨rfl, B1⟩; have K1 := hid (A0.out.later B1); have H1 := hid (HBB.out _ _ K1.out); clear B1) | (refine wpList_step (fun K hK => ?_); rw [if_pos (by rfl)]; refine wp_load_row 36 _ rfl w.heap.size rfl 36 EC.toArray (0, 0) _ H1.out Tryz.underlying36 rfl I36.out (hK _ _ ?_); clear hK K) | (go_at_call 95; refine (CL.out _).mono ?_; rintro r w2 ⟨rfl, B2⟩; have K2 := hid (K1.out.later B2); clear B2) | (go_at_call 94; refine (CC.out _).mono ?_; rintro r w3 ⟨rfl, B3⟩; have K3 := hid (K2.out.later B3); clear B3))
      go_ret
      exact ⟨by rw [EV.out]; rfl, K3.out.tail⟩
    · have h2' : e.left.empty = true := by simpa using h2
      rw [h2'] at CC
      by_cases h3 : 2304 < e.dik
      · have EV : Hid (e.inForm = false) := hid (by rw [EF.out, if_neg h1, if_neg h2, if_pos h3])
        have h3' : (2304 : Int) < (e.dik : Int) := by omega
        clear h3 h2 h2' h1 EF CN CS
        generalize e.left.cells = LC at *
        generalize e.cells = EC at *
        go_enter Tryz.func59, Tryz.ntmps59
        go_upto_region 1 with fail
        generalize w.alloc (.cells EC.toArray 36) = w0 at *
        obtain ⟨p0, p1, p2⟩ := PR.out _ _ A0.out
        go_wp2_with (first | (go_at_call 60; refine (CW.out _).mono ?_; rintro r w1 ⟨rfl, B1⟩; have K1 := hid (A0.out.later B1); have H1 := hid (HBB.out _ _ K1.out); clear B1) | (refine wpList_step (fun K hK => ?_); rw [if_pos (by rfl)]; refine wp_load_row 36 _ rfl w.heap.size rfl 36 EC.toArray (0, 0) _ H1.out Tryz.underlying36 rfl I36.out (hK _ _ ?_); clear hK K) | (go_at_call 95; refine (CL.out _).mono ?_; rintro r w2 ⟨rfl, B2⟩; have K2 := hid (K1.out.later B2); clear B2) | (go_at_call 94; refine (CC.out _).mono ?_; rintro r w3 ⟨rfl, B3⟩; have K3 := hid (K2.out.later B3); clear B3; obtain ⟨q0, q1, q2⟩ := PR.out _ _ K3.out))
        go_ret
        exact ⟨by rw [EV.out]; rfl, K3.out.tail⟩
      · have EV : Hid (e.inForm = if e.numsOk = false then false else e.stOk) := hid (by rw [EF.out, if_neg h1, if_neg h2, if_neg h3])
        have h3' : ¬ (2304 : Int) < (e.dik : Int) := by omega
        have NO : Hid (e.numsOk = false ↔ ∃ n ∈ e.nums, n < 0) := hid (by
          unfold Ev.numsOk
          rw [List.all_eq_false]
          simp)
        have NL : Hid (e.nums.length = 16) := hid rfl
        have NV : Hid (∀ W ds g j, All (blkC g (numV e.nums) 3 :: ds) W → j < 16 → ∃ n, e.nums[j]? = some n ∧ W.cell? ⟨g, j, none⟩ = some (.int .i64 n)) := hid (fun W ds g j h hj => by
          obtain ⟨n, hn⟩ : ∃ n, e.nums[j]? = some n := ⟨_, List.getElem?_eq_getElem (by rw [NL.out]; exact hj)⟩
          exact ⟨n, hn, cell_in h (List.mem_cons_self) (by simp [numV, hn])⟩)
        have SO : Hid (e.stOk = if e.k = 7 ∨ e.k = 10 then decide (1 ≤ e.l1 ∧ e.l1 ≤ 3) else true) := hid (by
          unfold Ev.stOk
          split
          · rename_i h; rcases h with h | h <;> simp [h]
          · rename_i h
            have n7 : ¬ e.k = 7 := fun x => h (Or.inl x)
            have n10 : ¬ e.k = 10 := fun x => h (Or.inr x)
            simp [n7, n10])
        clear h3 h2 h2' h1 EF
        generalize numV e.nums = NVV at *
        generalize e.left.cells = LC at *
        generalize e.cells = EC at *
        go_enter Tryz.func59, Tryz.ntmps59
        go_upto_region 1 with fail
        generalize w.alloc (.cells EC.toArray 36) = w0 at *
        obtain ⟨p0, p1, p2⟩ := PR.out _ _ A0.out
        go_upto_region 3 with (first | (go_at_call 60; refine (CW.out _).mono ?_; rintro r w1 ⟨rfl, B1⟩; have K1 := hid (A0.out.later B1); have H1 := hid (HBB.out _ _ K1.out); clear B1) | (refine wpList_step (fun K hK => ?_); rw [if_pos (by rfl)]; refine wp_load_row 36 _ rfl w.heap.size rfl 36 EC.toArray (0, 0) _ H1.out Tryz.underlying36 rfl I36.out (hK _ _ ?_); clear hK K) | (go_at_call 95; refine (CL.out _).mono ?_; rintro r w2 ⟨rfl, B2⟩; have K2 := hid (K1.out.later B2); clear B2) | (go_at_call 94; refine (CC.out _).mono ?_; rintro r w3 ⟨rfl, B3⟩; have K3 := hid (K2.out.later B3); clear B3; obtain ⟨q0, q1, q2⟩ := PR.out _ _ K3.out))
        clear p0 p1 p2 q0 q1 q2
        have H3 := hid (HBB.out _ _ K3.out)
        go_wp2_with (first | (refine wpList_load_row rfl 36 _ rfl w.heap.size rfl 36 EC.toArray (0, 0) _ H3.out Tryz.underlying36 rfl I36.out ?_) | (go_at_call 96; refine (CN.out _ K3.out).mono ?_; rintro r w4 ⟨g4, rfl, B4⟩; have K4 := hid B4; clear B4))
        go_loopw [4] (fun iv wr => ∃ j : Nat, j ≤ 16 ∧ iv = .int .i64 (j : Int) ∧ wr = w4 ∧ Hid (∀ i n, i < j → e.nums[i]? = some n → 0 ≤ n)) (fun iv _ => 16 - (intOf iv).toNat)
        case atStart => exact ⟨0, by omega, rfl, rfl, hid (fun i n hi => by omega)⟩
        case round =>
          obtain ⟨j, hj, rfl, hwr, hO⟩ := hrel
          subst hwr
          by_cases hlt : j < 16
          · have hlt' : (j : Int) < 16 := by omega
            obtain ⟨n, hn, hc⟩ := NV.out _ _ _ _ K4.out hlt
            by_cases hneg : n < 0
            · have EV2 : Hid (e.inForm = false) := hid (by
                rw [EV.out, if_pos (NO.out.2 ⟨n, List.mem_of_getElem? hn, hneg⟩)])
              clear hn
              go_wp2
              go_ret
              exact ⟨by rw [EV2.out]; rfl, K4.out.tail.tail⟩
            · have hO2 : Hid (∀ i m, i < j + 1 → e.nums[i]? = some m → 0 ≤ m) := hid (fun i m hi hm => by
                by_cases hij : i < j
                · exact hO.out i m hij hm
                · have : i = j := by omega
                  subst this
                  rw [hn] at hm
                  have := Option.some.inj hm
                  omega)
              clear hn hO
              go_wp2
              go_roundw
              case rel => exact ⟨j + 1, by omega, by go_num, (by first | rfl | trivial), hO2⟩
              case measure => simp [intOf]; omega
          · have hlt' : ¬ (j : Int) < 16 := by omega
            have ej : j = 16 := by omega
            have EV2 : Hid (e.inForm = e.stOk) := hid (by
              rw [EV.out, if_neg ?_]
              rw [NO.out]
              rintro ⟨n, hm, hneg⟩
              obtain ⟨i, hi, hie⟩ := List.getElem_of_mem hm
              have := hO.out i n (by have := NL.out; omega) (by rw [List.getElem?_eq_getElem hi, hie])
              omega)
            clear ej hO
            obtain ⟨s0, s1, s2⟩ := PR.out _ _ (K4.out.swap)
            have KF := hid K4.out.tail
            by_cases hk : e.k = 7 ∨ e.k = 10
            · have EV3 : Hid (e.inForm = decide (1 ≤ e.l1 ∧ e.l1 ≤ 3)) := hid (by rw [EV2.out, SO.out, if_pos hk])
              by_cases hs : 1 ≤ e.l1 ∧ e.l1 ≤ 3
              · have EV4 : Hid (e.inForm = true) := hid (by rw [EV3.out]; exact decide_eq_true hs)
                obtain ⟨u1, u2⟩ := str_no (x := statN e.l1) (fun h => statN_ne.1 h hs)
                have u3 : (⟨(statN e.l1).toArray⟩ : ByteArray).toList.isEmpty = false := by rw [Lib.toList_data]; cases hh : statN e.l1 with | nil => exact absurd hs (statN_ne.1 hh) | cons a r => rfl
                generalize ByteArray.mk (statN e.l1).toArray = SX at *
                rcases hk with hk | hk
                all_goals
                  rw [hk] at s0
                  go_wp2_with (go_at_call 97; refine (CS.out _).mono ?_; rintro r w5 ⟨rfl, B5⟩; have K5 := hid (KF.out.later B5); clear B5)
                  go_ret
                  exact ⟨by rw [EV4.out]; first | rfl | simp [u3], K5.out.tail⟩
              · have EV4 : Hid (e.inForm = false) := hid (by rw [EV3.out]; exact decide_eq_false hs)
                rw [statN_ne.2 hs] at CS
                rcases hk with hk | hk
                all_goals
                  rw [hk] at s0
                  go_wp2_with (go_at_call 97; refine (CS.out _).mono ?_; rintro r w5 ⟨rfl, B5⟩; have K5 := hid (KF.out.later B5); clear B5)
                  go_ret
                  exact ⟨by rw [EV4.out]; rfl, K5.out.tail⟩
            · have EV4 : Hid (e.inForm = true) := hid (by rw [EV2.out, SO.out, if_neg hk])
              have n7 : (e.k != 7) = true := by simp; omega
              have n10 : (e.k != 10) = true := by simp; omega
              clear hk
              go_wp2
              go_ret
              exact ⟨by rw [EV4.out]; rfl, KF.out.tail⟩
end Go.Proofs.YtfeppannfcbakaaGreatDoor

namespace Go.Proofs.YtfeppannfcbakaaGreatDoor
open Go.RowKit
set_option linter.unusedVariables false
set_option maxRecDepth 100000

theorem Dig_any {v : Int} (h0 : 0 ≤ v) (h1 : v ≤ 9223372036854775807) (w : World) : Calls Tryz.prog 43 #[.int .i64 v] w fun e w' => e = .returned (.string ⟨(Lib.itoa v).toArray⟩) ∧ Below w.heap.size w w' := by
  obtain ⟨n, rfl⟩ := Int.eq_ofNat_of_zero_le h0
  rw [itoa_nat]
  exact Digits_any n w (by omega)
set_option maxHeartbeats 6400000 in
set_option maxRecDepth 1000000 in
theorem look_any {l0 l1 l2 l3 l4 l5 l6 l7 : Int} {cs : List Comp} {w : World} (h0 : 0 ≤ l0 ∧ l0 ≤ 9223372036854775807) (h2 : 0 ≤ l2 ∧ l2 ≤ 9223372036854775807) (h3 : 0 ≤ l3 ∧ l3 ≤ 9223372036854775807) (h4 : 0 ≤ l4 ∧ l4 ≤ 9223372036854775807) (h5 : 0 ≤ l5 ∧ l5 ≤ 9223372036854775807) (h6 : 0 ≤ l6 ∧ l6 ≤ 9223372036854775807) (h7 : 0 ≤ l7 ∧ l7 ≤ 9223372036854775807) (A : All cs w) : Calls Tryz.prog 61 #[.agg #[.int .i64 l0, .int .i64 l1, .int .i64 l2, .int .i64 l3, .int .i64 l4, .int .i64 l5, .int .i64 l6, .int .i64 l7]] w fun r w' => ∃ g, r = .returned (.slice (some ⟨g, 0, none⟩) 8 8) ∧ All (ownC 9 (.slice (some ⟨g, 0, none⟩) 8 8) (txW [Lib.itoa l0, statN l1, Lib.itoa l2, Lib.itoa l3, Lib.itoa l4, Lib.itoa l5, Lib.itoa l6, Lib.itoa l7]) :: cs) w' := by
  have A0 := hid (A.addBlk [.int .i64 l0, .int .i64 l1, .int .i64 l2, .int .i64 l3, .int .i64 l4, .int .i64 l5, .int .i64 l6, .int .i64 l7] 31)
  have PR : Hid (∀ W, All (blkC w.heap.size [.int .i64 l0, .int .i64 l1, .int .i64 l2, .int .i64 l3, .int .i64 l4, .int .i64 l5, .int .i64 l6, .int .i64 l7] 31 :: cs) W → W.cell? ⟨w.heap.size, 0, none⟩ = some (.int .i64 l0) ∧ W.cell? ⟨w.heap.size, 1, none⟩ = some (.int .i64 l1) ∧ W.cell? ⟨w.heap.size, 2, none⟩ = some (.int .i64 l2) ∧ W.cell? ⟨w.heap.size, 3, none⟩ = some (.int .i64 l3) ∧ W.cell? ⟨w.heap.size, 4, none⟩ = some (.int .i64 l4) ∧ W.cell? ⟨w.heap.size, 5, none⟩ = some (.int .i64 l5) ∧ W.cell? ⟨w.heap.size, 6, none⟩ = some (.int .i64 l6) ∧ W.cell? ⟨w.heap.size, 7, none⟩ = some (.int .i64 l7)) := hid (fun W h => ⟨cell_in h (List.mem_cons_self) rfl, cell_in h (List.mem_cons_self) rfl, cell_in h (List.mem_cons_self) rfl, cell_in h (List.mem_cons_self) rfl, cell_in h (List.mem_cons_self) rfl, cell_in h (List.mem_cons_self) rfl, cell_in h (List.mem_cons_self) rfl, cell_in h (List.mem_cons_self) rfl⟩)
  have FN : Hid (∀ W, All (blkC w.heap.size [.int .i64 l0, .int .i64 l1, .int .i64 l2, .int .i64 l3, .int .i64 l4, .int .i64 l5, .int .i64 l6, .int .i64 l7] 31 :: cs) W → All (ownC 9 (.slice (some ⟨W.heap.size, 0, none⟩) 8 8) (txW [Lib.itoa l0, statN l1, Lib.itoa l2, Lib.itoa l3, Lib.itoa l4, Lib.itoa l5, Lib.itoa l6, Lib.itoa l7]) :: cs) (W.alloc (.cells #[.string ⟨(Lib.itoa l0).toArray⟩, .string ⟨(statN l1).toArray⟩, .string ⟨(Lib.itoa l2).toArray⟩, .string ⟨(Lib.itoa l3).toArray⟩, .string ⟨(Lib.itoa l4).toArray⟩, .string ⟨(Lib.itoa l5).toArray⟩, .string ⟨(Lib.itoa l6).toArray⟩, .string ⟨(Lib.itoa l7).toArray⟩] 9))) := hid (fun W h => (own_new h [Lib.itoa l0, statN l1, Lib.itoa l2, Lib.itoa l3, Lib.itoa l4, Lib.itoa l5, Lib.itoa l6, Lib.itoa l7] (by simp)).swap.tail)
  have C0 := hid (fun W => Dig_any h0.1 h0.2 W)
  have C1 := hid (fun W => status_any l1 W)
  have C2 := hid (fun W => Dig_any h2.1 h2.2 W)
  have C3 := hid (fun W => Dig_any h3.1 h3.2 W)
  have C4 := hid (fun W => Dig_any h4.1 h4.2 W)
  have C5 := hid (fun W => Dig_any h5.1 h5.2 W)
  have C6 := hid (fun W => Dig_any h6.1 h6.2 W)
  have C7 := hid (fun W => Dig_any h7.1 h7.2 W)
  generalize hB0 : ByteArray.mk (Lib.itoa l0).toArray = B0 at *
  generalize hB1 : ByteArray.mk (statN l1).toArray = B1 at *
  generalize hB2 : ByteArray.mk (Lib.itoa l2).toArray = B2 at *
  generalize hB3 : ByteArray.mk (Lib.itoa l3).toArray = B3 at *
  generalize hB4 : ByteArray.mk (Lib.itoa l4).toArray = B4 at *
  generalize hB5 : ByteArray.mk (Lib.itoa l5).toArray = B5 at *
  generalize hB6 : ByteArray.mk (Lib.itoa l6).toArray = B6 at *
  generalize hB7 : ByteArray.mk (Lib.itoa l7).toArray = B7 at *
  clear A
  go_enter Tryz.func61, Tryz.ntmps61
  go_upto_region 1 with fail
  change Code.wp _ _ _ _ (w.alloc (.cells ([.int .i64 l0, .int .i64 l1, .int .i64 l2, .int .i64 l3, .int .i64 l4, .int .i64 l5, .int .i64 l6, .int .i64 l7] : List Value).toArray 31))
  generalize hLV : ([.int .i64 l0, .int .i64 l1, .int .i64 l2, .int .i64 l3, .int .i64 l4, .int .i64 l5, .int .i64 l6, .int .i64 l7] : List Value) = LV at *
  clear hLV
  generalize w.alloc (.cells LV.toArray 31) = w0 at *
  have K0 := hid A0.out.drew
  refine wp_region_held_drew (S := (fun W => W.cell? ⟨w.heap.size, 0, none⟩ = some (.int .i64 l0) ∧ W.cell? ⟨w.heap.size, 1, none⟩ = some (.int .i64 l1) ∧ W.cell? ⟨w.heap.size, 2, none⟩ = some (.int .i64 l2) ∧ W.cell? ⟨w.heap.size, 3, none⟩ = some (.int .i64 l3) ∧ W.cell? ⟨w.heap.size, 4, none⟩ = some (.int .i64 l4) ∧ W.cell? ⟨w.heap.size, 5, none⟩ = some (.int .i64 l5) ∧ W.cell? ⟨w.heap.size, 6, none⟩ = some (.int .i64 l6) ∧ W.cell? ⟨w.heap.size, 7, none⟩ = some (.int .i64 l7))) (by kernel_rfl) (PR.out _ K0.out) (fun hHeld => ?_)
  generalize World.drew _ = wd at *
  refine wpAnyH_take (i := 0) (oi := { dst := Option.some 3, op := Go.Op.fieldAddr 31 (Go.Operand.tmp 1) 0, type := 0, pos := "ref.go:118", after := #[], guard := Option.none }) (v := ?_) rfl (by kernel_rfl) (by kernel_rfl) (by kernel_rfl) (fun _ _ _ h => h) (Or.inl ⟨by rfl, ?_⟩) hHeld ?_
  rotate_left
  · intro W hSw
    obtain ⟨s0, s1, s2, s3, s4, s5, s6, s7⟩ := hSw
    go_simp
    (try with_reducible rfl)
  (try simp only [Act.put, List.setIfInBounds_toArray, List.set_cons_zero, List.set_cons_succ])
  refine wpAnyH_take (i := 1) (oi := { dst := Option.some 4, op := Go.Op.load 3 (Go.Operand.tmp 3), type := 3, pos := "ref.go:118", after := #[{ on := 0, ground := Go.Ground.data }], guard := Option.none }) (v := ?_) rfl (by kernel_rfl) (by kernel_rfl) (by kernel_rfl) (fun _ _ _ h => h) (Or.inl ⟨by rfl, ?_⟩) hHeld ?_
  rotate_left
  · intro W hSw
    obtain ⟨s0, s1, s2, s3, s4, s5, s6, s7⟩ := hSw
    go_simp
    (try with_reducible rfl)
  (try simp only [Act.put, List.setIfInBounds_toArray, List.set_cons_zero, List.set_cons_succ])
  refine wpAnyH_take (i := 3) (oi := { dst := Option.some 6, op := Go.Op.fieldAddr 31 (Go.Operand.tmp 1) 1, type := 0, pos := "ref.go:118", after := #[], guard := Option.none }) (v := ?_) rfl (by kernel_rfl) (by kernel_rfl) (by kernel_rfl) (fun _ _ _ h => h) (Or.inl ⟨by rfl, ?_⟩) hHeld ?_
  rotate_left
  · intro W hSw
    obtain ⟨s0, s1, s2, s3, s4, s5, s6, s7⟩ := hSw
    go_simp
    (try with_reducible rfl)
  (try simp only [Act.put, List.setIfInBounds_toArray, List.set_cons_zero, List.set_cons_succ])
  refine wpAnyH_take (i := 4) (oi := { dst := Option.some 7, op := Go.Op.load 3 (Go.Operand.tmp 6), type := 3, pos := "ref.go:118", after := #[{ on := 3, ground := Go.Ground.data }], guard := Option.none }) (v := ?_) rfl (by kernel_rfl) (by kernel_rfl) (by kernel_rfl) (fun _ _ _ h => h) (Or.inl ⟨by rfl, ?_⟩) hHeld ?_
  rotate_left
  · intro W hSw
    obtain ⟨s0, s1, s2, s3, s4, s5, s6, s7⟩ := hSw
    go_simp
    (try with_reducible rfl)
  (try simp only [Act.put, List.setIfInBounds_toArray, List.set_cons_zero, List.set_cons_succ])
  refine wpAnyH_take (i := 6) (oi := { dst := Option.some 9, op := Go.Op.fieldAddr 31 (Go.Operand.tmp 1) 2, type := 0, pos := "ref.go:118", after := #[], guard := Option.none }) (v := ?_) rfl (by kernel_rfl) (by kernel_rfl) (by kernel_rfl) (fun _ _ _ h => h) (Or.inl ⟨by rfl, ?_⟩) hHeld ?_
  rotate_left
  · intro W hSw
    obtain ⟨s0, s1, s2, s3, s4, s5, s6, s7⟩ := hSw
    go_simp
    (try with_reducible rfl)
  (try simp only [Act.put, List.setIfInBounds_toArray, List.set_cons_zero, List.set_cons_succ])
  refine wpAnyH_take (i := 7) (oi := { dst := Option.some 10, op := Go.Op.load 3 (Go.Operand.tmp 9), type := 3, pos := "ref.go:118", after := #[{ on := 6, ground := Go.Ground.data }], guard := Option.none }) (v := ?_) rfl (by kernel_rfl) (by kernel_rfl) (by kernel_rfl) (fun _ _ _ h => h) (Or.inl ⟨by rfl, ?_⟩) hHeld ?_
  rotate_left
  · intro W hSw
    obtain ⟨s0, s1, s2, s3, s4, s5, s6, s7⟩ := hSw
    go_simp
    (try with_reducible rfl)
  (try simp only [Act.put, List.setIfInBounds_toArray, List.set_cons_zero, List.set_cons_succ])
  refine wpAnyH_take (i := 9) (oi := { dst := Option.some 12, op := Go.Op.fieldAddr 31 (Go.Operand.tmp 1) 3, type := 0, pos := "ref.go:118", after := #[], guard := Option.none }) (v := ?_) rfl (by kernel_rfl) (by kernel_rfl) (by kernel_rfl) (fun _ _ _ h => h) (Or.inl ⟨by rfl, ?_⟩) hHeld ?_
  rotate_left
  · intro W hSw
    obtain ⟨s0, s1, s2, s3, s4, s5, s6, s7⟩ := hSw
    go_simp
    (try with_reducible rfl)
  (try simp only [Act.put, List.setIfInBounds_toArray, List.set_cons_zero, List.set_cons_succ])
  refine wpAnyH_take (i := 10) (oi := { dst := Option.some 13, op := Go.Op.load 3 (Go.Operand.tmp 12), type := 3, pos := "ref.go:118", after := #[{ on := 9, ground := Go.Ground.data }], guard := Option.none }) (v := ?_) rfl (by kernel_rfl) (by kernel_rfl) (by kernel_rfl) (fun _ _ _ h => h) (Or.inl ⟨by rfl, ?_⟩) hHeld ?_
  rotate_left
  · intro W hSw
    obtain ⟨s0, s1, s2, s3, s4, s5, s6, s7⟩ := hSw
    go_simp
    (try with_reducible rfl)
  (try simp only [Act.put, List.setIfInBounds_toArray, List.set_cons_zero, List.set_cons_succ])
  refine wpAnyH_take (i := 12) (oi := { dst := Option.some 15, op := Go.Op.fieldAddr 31 (Go.Operand.tmp 1) 4, type := 0, pos := "ref.go:118", after := #[], guard := Option.none }) (v := ?_) rfl (by kernel_rfl) (by kernel_rfl) (by kernel_rfl) (fun _ _ _ h => h) (Or.inl ⟨by rfl, ?_⟩) hHeld ?_
  rotate_left
  · intro W hSw
    obtain ⟨s0, s1, s2, s3, s4, s5, s6, s7⟩ := hSw
    go_simp
    (try with_reducible rfl)
  (try simp only [Act.put, List.setIfInBounds_toArray, List.set_cons_zero, List.set_cons_succ])
  refine wpAnyH_take (i := 13) (oi := { dst := Option.some 16, op := Go.Op.load 3 (Go.Operand.tmp 15), type := 3, pos := "ref.go:118", after := #[{ on := 12, ground := Go.Ground.data }], guard := Option.none }) (v := ?_) rfl (by kernel_rfl) (by kernel_rfl) (by kernel_rfl) (fun _ _ _ h => h) (Or.inl ⟨by rfl, ?_⟩) hHeld ?_
  rotate_left
  · intro W hSw
    obtain ⟨s0, s1, s2, s3, s4, s5, s6, s7⟩ := hSw
    go_simp
    (try with_reducible rfl)
  (try simp only [Act.put, List.setIfInBounds_toArray, List.set_cons_zero, List.set_cons_succ])
  refine wpAnyH_take (i := 15) (oi := { dst := Option.some 18, op := Go.Op.fieldAddr 31 (Go.Operand.tmp 1) 5, type := 0, pos := "ref.go:118", after := #[], guard := Option.none }) (v := ?_) rfl (by kernel_rfl) (by kernel_rfl) (by kernel_rfl) (fun _ _ _ h => h) (Or.inl ⟨by rfl, ?_⟩) hHeld ?_
  rotate_left
  · intro W hSw
    obtain ⟨s0, s1, s2, s3, s4, s5, s6, s7⟩ := hSw
    go_simp
    (try with_reducible rfl)
  (try simp only [Act.put, List.setIfInBounds_toArray, List.set_cons_zero, List.set_cons_succ])
  refine wpAnyH_take (i := 16) (oi := { dst := Option.some 19, op := Go.Op.load 3 (Go.Operand.tmp 18), type := 3, pos := "ref.go:118", after := #[{ on := 15, ground := Go.Ground.data }], guard := Option.none }) (v := ?_) rfl (by kernel_rfl) (by kernel_rfl) (by kernel_rfl) (fun _ _ _ h => h) (Or.inl ⟨by rfl, ?_⟩) hHeld ?_
  rotate_left
  · intro W hSw
    obtain ⟨s0, s1, s2, s3, s4, s5, s6, s7⟩ := hSw
    go_simp
    (try with_reducible rfl)
  (try simp only [Act.put, List.setIfInBounds_toArray, List.set_cons_zero, List.set_cons_succ])
  refine wpAnyH_take (i := 18) (oi := { dst := Option.some 21, op := Go.Op.fieldAddr 31 (Go.Operand.tmp 1) 6, type := 0, pos := "ref.go:118", after := #[], guard := Option.none }) (v := ?_) rfl (by kernel_rfl) (by kernel_rfl) (by kernel_rfl) (fun _ _ _ h => h) (Or.inl ⟨by rfl, ?_⟩) hHeld ?_
  rotate_left
  · intro W hSw
    obtain ⟨s0, s1, s2, s3, s4, s5, s6, s7⟩ := hSw
    go_simp
    (try with_reducible rfl)
  (try simp only [Act.put, List.setIfInBounds_toArray, List.set_cons_zero, List.set_cons_succ])
  refine wpAnyH_take (i := 19) (oi := { dst := Option.some 22, op := Go.Op.load 3 (Go.Operand.tmp 21), type := 3, pos := "ref.go:118", after := #[{ on := 18, ground := Go.Ground.data }], guard := Option.none }) (v := ?_) rfl (by kernel_rfl) (by kernel_rfl) (by kernel_rfl) (fun _ _ _ h => h) (Or.inl ⟨by rfl, ?_⟩) hHeld ?_
  rotate_left
  · intro W hSw
    obtain ⟨s0, s1, s2, s3, s4, s5, s6, s7⟩ := hSw
    go_simp
    (try with_reducible rfl)
  (try simp only [Act.put, List.setIfInBounds_toArray, List.set_cons_zero, List.set_cons_succ])
  refine wpAnyH_take (i := 21) (oi := { dst := Option.some 24, op := Go.Op.fieldAddr 31 (Go.Operand.tmp 1) 7, type := 0, pos := "ref.go:118", after := #[], guard := Option.none }) (v := ?_) rfl (by kernel_rfl) (by kernel_rfl) (by kernel_rfl) (fun _ _ _ h => h) (Or.inl ⟨by rfl, ?_⟩) hHeld ?_
  rotate_left
  · intro W hSw
    obtain ⟨s0, s1, s2, s3, s4, s5, s6, s7⟩ := hSw
    go_simp
    (try with_reducible rfl)
  (try simp only [Act.put, List.setIfInBounds_toArray, List.set_cons_zero, List.set_cons_succ])
  refine wpAnyH_take (i := 22) (oi := { dst := Option.some 25, op := Go.Op.load 3 (Go.Operand.tmp 24), type := 3, pos := "ref.go:118", after := #[{ on := 21, ground := Go.Ground.data }], guard := Option.none }) (v := ?_) rfl (by kernel_rfl) (by kernel_rfl) (by kernel_rfl) (fun _ _ _ h => h) (Or.inl ⟨by rfl, ?_⟩) hHeld ?_
  rotate_left
  · intro W hSw
    obtain ⟨s0, s1, s2, s3, s4, s5, s6, s7⟩ := hSw
    go_simp
    (try with_reducible rfl)
  (try simp only [Act.put, List.setIfInBounds_toArray, List.set_cons_zero, List.set_cons_succ])
  refine wpAnyH_ready (rs := [2]) (by kernel_rfl) (by simp) ?_
  refine AllReadyH.cons (o := { dst := Option.some 5, op := Go.Op.call { callee := Go.Callee.value (Go.Operand.func 43), args := #[Go.Operand.tmp 4], argTypes := #[3] }, type := 9, pos := "ref.go:118", after := #[{ on := 1, ground := Go.Ground.data }], guard := Option.none }) rfl (fun K hK => ?_) AllReadyH.nil
  go_simp
  go_at_call 43; refine (C0.out _).mono ?_; rintro r x0 ⟨rfl, b0⟩; have K1 := hid (K0.out.later b0); clear b0
  refine hK.out _ _ (PR.out _ K1.out) (fun hHeld => ?_)
  clear hK K
  (try simp only [Act.put, List.setIfInBounds_toArray, List.set_cons_zero, List.set_cons_succ])
  refine wpAnyH_ready (rs := [5]) (by kernel_rfl) (by simp) ?_
  refine AllReadyH.cons (o := { dst := Option.some 8, op := Go.Op.call { callee := Go.Callee.value (Go.Operand.func 97), args := #[Go.Operand.tmp 7], argTypes := #[3] }, type := 9, pos := "ref.go:118", after := #[{ on := 4, ground := Go.Ground.data }, { on := 2, ground := Go.Ground.chain }], guard := Option.none }) rfl (fun K hK => ?_) AllReadyH.nil
  go_simp
  go_at_call 97; refine (C1.out _).mono ?_; rintro r x1 ⟨rfl, b1⟩; have K2 := hid (K1.out.later b1); clear b1
  refine hK.out _ _ (PR.out _ K2.out) (fun hHeld => ?_)
  clear hK K
  (try simp only [Act.put, List.setIfInBounds_toArray, List.set_cons_zero, List.set_cons_succ])
  refine wpAnyH_ready (rs := [8]) (by kernel_rfl) (by simp) ?_
  refine AllReadyH.cons (o := { dst := Option.some 11, op := Go.Op.call { callee := Go.Callee.value (Go.Operand.func 43), args := #[Go.Operand.tmp 10], argTypes := #[3] }, type := 9, pos := "ref.go:118", after := #[{ on := 7, ground := Go.Ground.data }, { on := 5, ground := Go.Ground.chain }], guard := Option.none }) rfl (fun K hK => ?_) AllReadyH.nil
  go_simp
  go_at_call 43; refine (C2.out _).mono ?_; rintro r x2 ⟨rfl, b2⟩; have K3 := hid (K2.out.later b2); clear b2
  refine hK.out _ _ (PR.out _ K3.out) (fun hHeld => ?_)
  clear hK K
  (try simp only [Act.put, List.setIfInBounds_toArray, List.set_cons_zero, List.set_cons_succ])
  refine wpAnyH_ready (rs := [11]) (by kernel_rfl) (by simp) ?_
  refine AllReadyH.cons (o := { dst := Option.some 14, op := Go.Op.call { callee := Go.Callee.value (Go.Operand.func 43), args := #[Go.Operand.tmp 13], argTypes := #[3] }, type := 9, pos := "ref.go:118", after := #[{ on := 10, ground := Go.Ground.data }, { on := 8, ground := Go.Ground.chain }], guard := Option.none }) rfl (fun K hK => ?_) AllReadyH.nil
  go_simp
  go_at_call 43; refine (C3.out _).mono ?_; rintro r x3 ⟨rfl, b3⟩; have K4 := hid (K3.out.later b3); clear b3
  refine hK.out _ _ (PR.out _ K4.out) (fun hHeld => ?_)
  clear hK K
  (try simp only [Act.put, List.setIfInBounds_toArray, List.set_cons_zero, List.set_cons_succ])
  refine wpAnyH_ready (rs := [14]) (by kernel_rfl) (by simp) ?_
  refine AllReadyH.cons (o := { dst := Option.some 17, op := Go.Op.call { callee := Go.Callee.value (Go.Operand.func 43), args := #[Go.Operand.tmp 16], argTypes := #[3] }, type := 9, pos := "ref.go:118", after := #[{ on := 13, ground := Go.Ground.data }, { on := 11, ground := Go.Ground.chain }], guard := Option.none }) rfl (fun K hK => ?_) AllReadyH.nil
  go_simp
  go_at_call 43; refine (C4.out _).mono ?_; rintro r x4 ⟨rfl, b4⟩; have K5 := hid (K4.out.later b4); clear b4
  refine hK.out _ _ (PR.out _ K5.out) (fun hHeld => ?_)
  clear hK K
  (try simp only [Act.put, List.setIfInBounds_toArray, List.set_cons_zero, List.set_cons_succ])
  refine wpAnyH_ready (rs := [17]) (by kernel_rfl) (by simp) ?_
  refine AllReadyH.cons (o := { dst := Option.some 20, op := Go.Op.call { callee := Go.Callee.value (Go.Operand.func 43), args := #[Go.Operand.tmp 19], argTypes := #[3] }, type := 9, pos := "ref.go:118", after := #[{ on := 16, ground := Go.Ground.data }, { on := 14, ground := Go.Ground.chain }], guard := Option.none }) rfl (fun K hK => ?_) AllReadyH.nil
  go_simp
  go_at_call 43; refine (C5.out _).mono ?_; rintro r x5 ⟨rfl, b5⟩; have K6 := hid (K5.out.later b5); clear b5
  refine hK.out _ _ (PR.out _ K6.out) (fun hHeld => ?_)
  clear hK K
  (try simp only [Act.put, List.setIfInBounds_toArray, List.set_cons_zero, List.set_cons_succ])
  refine wpAnyH_ready (rs := [20]) (by kernel_rfl) (by simp) ?_
  refine AllReadyH.cons (o := { dst := Option.some 23, op := Go.Op.call { callee := Go.Callee.value (Go.Operand.func 43), args := #[Go.Operand.tmp 22], argTypes := #[3] }, type := 9, pos := "ref.go:118", after := #[{ on := 19, ground := Go.Ground.data }, { on := 17, ground := Go.Ground.chain }], guard := Option.none }) rfl (fun K hK => ?_) AllReadyH.nil
  go_simp
  go_at_call 43; refine (C6.out _).mono ?_; rintro r x6 ⟨rfl, b6⟩; have K7 := hid (K6.out.later b6); clear b6
  refine hK.out _ _ (PR.out _ K7.out) (fun hHeld => ?_)
  clear hK K
  (try simp only [Act.put, List.setIfInBounds_toArray, List.set_cons_zero, List.set_cons_succ])
  refine wpAnyH_ready (rs := [23]) (by kernel_rfl) (by simp) ?_
  refine AllReadyH.cons (o := { dst := Option.some 26, op := Go.Op.call { callee := Go.Callee.value (Go.Operand.func 43), args := #[Go.Operand.tmp 25], argTypes := #[3] }, type := 9, pos := "ref.go:118", after := #[{ on := 22, ground := Go.Ground.data }, { on := 20, ground := Go.Ground.chain }], guard := Option.none }) rfl (fun K hK => ?_) AllReadyH.nil
  go_simp
  go_at_call 43; refine (C7.out _).mono ?_; rintro r x7 ⟨rfl, b7⟩; have K8 := hid (K7.out.later b7); clear b7
  refine hK.out _ _ (PR.out _ K8.out) (fun hHeld => ?_)
  clear hK K
  (try simp only [Act.put, List.setIfInBounds_toArray, List.set_cons_zero, List.set_cons_succ])
  have KF := hid (FN.out _ K8.out)
  have KG := hid (K8.out.alloc (.cells #[.string B0, .string B1, .string B2, .string B3, .string B4, .string B5, .string B6, .string B7] 9))
  refine wpAnyH_ready (rs := [24]) (by kernel_rfl) (by simp) ?_
  refine AllReadyH.cons (o := { dst := Option.some 27, op := Go.Op.buildSlice 27 8 #[(0, Go.Operand.tmp 5), (1, Go.Operand.tmp 8), (2, Go.Operand.tmp 11), (3, Go.Operand.tmp 14), (4, Go.Operand.tmp 17), (5, Go.Operand.tmp 20), (6, Go.Operand.tmp 23), (7, Go.Operand.tmp 26)], type := 27, pos := "ref.go:118", after := #[{ on := 2, ground := Go.Ground.data }, { on := 5, ground := Go.Ground.data }, { on := 8, ground := Go.Ground.data }, { on := 11, ground := Go.Ground.data }, { on := 14, ground := Go.Ground.data }, { on := 17, ground := Go.Ground.data }, { on := 20, ground := Go.Ground.data }, { on := 23, ground := Go.Ground.data }], guard := Option.none }) rfl (fun K hK => ?_) AllReadyH.nil
  go_simp
  skip
  refine hK.out _ _ (PR.out _ KG.out) (fun hHeld => ?_)
  clear hK K
  (try simp only [Act.put, List.setIfInBounds_toArray, List.set_cons_zero, List.set_cons_succ])
  refine wpAnyH_ready (rs := [25]) (by kernel_rfl) (by simp) ?_
  refine AllReadyH.cons (o := { dst := Option.some 2, op := Go.Op.assign (Go.Operand.tmp 27), type := 27, pos := "ref.go:118", after := #[{ on := 24, ground := Go.Ground.data }, { on := 23, ground := Go.Ground.chain }, { on := 0, ground := Go.Ground.phase }, { on := 1, ground := Go.Ground.phase }, { on := 2, ground := Go.Ground.phase }, { on := 3, ground := Go.Ground.phase }, { on := 4, ground := Go.Ground.phase }, { on := 5, ground := Go.Ground.phase }, { on := 6, ground := Go.Ground.phase }, { on := 7, ground := Go.Ground.phase }, { on := 8, ground := Go.Ground.phase }, { on := 9, ground := Go.Ground.phase }, { on := 10, ground := Go.Ground.phase }, { on := 11, ground := Go.Ground.phase }, { on := 12, ground := Go.Ground.phase }, { on := 13, ground := Go.Ground.phase }, { on := 14, ground := Go.Ground.phase }, { on := 15, ground := Go.Ground.phase }, { on := 16, ground := Go.Ground.phase }, { on := 17, ground := Go.Ground.phase }, { on := 18, ground := Go.Ground.phase }, { on := 19, ground := Go.Ground.phase }, { on := 20, ground := Go.Ground.phase }, { on := 21, ground := Go.Ground.phase }, { on := 22, ground := Go.Ground.phase }, { on := 23, ground := Go.Ground.phase }, { on := 24, ground := Go.Ground.phase }], guard := Option.none }) rfl (fun K hK => ?_) AllReadyH.nil
  go_simp
  skip
  refine hK.out _ _ (PR.out _ KG.out) (fun hHeld => ?_)
  clear hK K
  (try simp only [Act.put, List.setIfInBounds_toArray, List.set_cons_zero, List.set_cons_succ])
  refine wpAnyH_done (by kernel_rfl) ?_ _
  clear hHeld
  go_wp2
  go_ret
  exact ⟨_, rfl, KF.out⟩
end Go.Proofs.YtfeppannfcbakaaGreatDoor
