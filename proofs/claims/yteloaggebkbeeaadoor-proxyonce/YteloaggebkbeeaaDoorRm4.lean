import Derived.Test.YteloaggebkbeeaaDoorRm3
import Derived.Deep.MidRow
namespace Go.Proofs.YteloaggebkbeeaaDoor
open Go.RowKit
set_option linter.unusedVariables false

theorem ite_tt {α : Type} (a b : α) : (if (true = true) then a else b) = a := rfl
theorem endB_in (n who : Int) (c : Bool) : endB n who c = inR who 0 (if c then 7 else n - 1) := by cases c <;> rfl
/-- What the document's Check tells. -/
def rchk (m : Ms) (k : Nat) (eF eT nu bo ex : Bool) : Int := if eF = false then 111 else if eT = false then 112 else if m.slf = true then 112 else if (inK k 86 && !inR m.v 0 1099511627776) = true then 113 else if nu = false then 114 else if bo = false then 115 else if ex = true then 116 else 0
set_option maxHeartbeats 6400000 in
set_option maxRecDepth 1000000 in
theorem rcheckM {w : World} (n : Int) (hf : n = 3 ∨ n = 5 ∨ n = 7) (m : Ms) {k : Nat} (hk1 : 1 ≤ k ∧ k ≤ 15) (hk : m.k = (k : Int)) (nu bo ex : Bool)
    (N38 : ∀ W, Below w.heap.size w W → Calls Tryd.prog 44 #[m.V] W fun e w' => e = .returned (.bool nu) ∧ Below W.heap.size W w')
    (N39 : nu = true → ∀ W, Below w.heap.size w W → Calls Tryd.prog 45 #[m.V] W fun e w' => e = .returned (.bool bo) ∧ Below W.heap.size W w')
    (N40 : ∀ W, Below w.heap.size w W → Calls Tryd.prog 46 #[m.V] W fun e w' => e = .returned (.bool ex) ∧ Below W.heap.size W w') :
    Calls Tryd.prog 16 #[.int .i64 n, m.V] w fun e w' => e = .returned (.int .i64 (rchk m k (endB n m.f (decide (m.k = 1 ∨ m.k = 14))) (endB n m.t (decide (m.k = 2 ∨ m.k = 3 ∨ m.k = 15))) nu bo ex)) ∧ Below w.heap.size w w' := by
  have hs : IntKind.i64.wrap (n - 1) = n - 1 := by rw [IntKind.wrap_i64]; omega
  have C35 : Hid (∀ W : World, Calls Tryd.prog 39 #[.int .i64 n] W fun e w' => e = .returned (.bool true) ∧ w' = W) := hid (fun W => by have := rfleet_any (w := W) n; rw [decide_eq_true hf] at this; exact this)
  have e15 : inR (k : Int) 1 15 = true := decide_eq_true (by omega)
  have C12 : Hid (∀ W : World, Calls Tryd.prog 41 #[.int .i64 (k : Int)] W fun e w' => e = .returned (.bool (decide (m.k = 1 ∨ m.k = 14))) ∧ w' = W) := hid (fun W => by rw [hk]; exact rfrom_any (k : Int))
  have C13 : Hid (∀ W : World, Calls Tryd.prog 42 #[.int .i64 (k : Int)] W fun e w' => e = .returned (.bool (decide (m.k = 2 ∨ m.k = 3 ∨ m.k = 15))) ∧ w' = W) := hid (fun W => by rw [hk]; exact rto_any (k : Int))
  have C37 : Hid (∀ W : World, Calls Tryd.prog 43 #[.int .i64 (k : Int)] W fun e w' => e = .returned (.bool (inK k 86)) ∧ w' = W) := hid (fun W => has37 hk1)
  obtain ⟨r, hr⟩ : ∃ r, Hid (rchk m k (endB n m.f (decide (m.k = 1 ∨ m.k = 14))) (endB n m.t (decide (m.k = 2 ∨ m.k = 3 ∨ m.k = 15))) nu bo ex = r) := ⟨_, hid rfl⟩
  rw [hr.out]
  have hr : Hid ((if endB n m.f (decide (m.k = 1 ∨ m.k = 14)) = false then 111 else if endB n m.t (decide (m.k = 2 ∨ m.k = 3 ∨ m.k = 15)) = false then 112 else if (decide (m.f = m.t) && (!decide (m.k = 1 ∨ m.k = 14) && !decide (m.k = 2 ∨ m.k = 3 ∨ m.k = 15))) = true then 112 else if (inK k 86 && !inR m.v 0 1099511627776) = true then 113 else if nu = false then 114 else if bo = false then 115 else if ex = true then 116 else 0) = r) := hid hr.out
  generalize decide (m.k = 1 ∨ m.k = 14) = cF at C12 hr
  generalize decide (m.k = 2 ∨ m.k = 3 ∨ m.k = 15) = cT at C13 hr
  rw [endB_in, endB_in] at hr
  generalize inK k 86 = hv at C37 hr
  have H38 := hid N38
  have H39 := hid N39
  have H40 := hid N40
  have HK := hid hk
  have B0 := hid (ba w (.cells m.cells.toArray 41))
  have M0 : Hid ((w.alloc (.cells m.cells.toArray 41)).heap[w.heap.size]? = some (.cells m.cells.toArray 41 (0, 0))) := hid (heap_alloc_new _ _)
  have I34 : Hid ((Tryd.prog.info? 41).map (·.size) = some m.cells.length) := hid (by kernel_rfl)
  clear N38 N39 N40 hk hf hk1
  go_enter Tryd.func16, Tryd.ntmps16
  go_upto_region 1 with fail
  obtain ⟨b, hbb⟩ : ∃ b, Hid (b = w.heap.size) := ⟨_, hid rfl⟩
  rw [← hbb.out] at M0 ⊢
  change Code.wp _ _ _ _ (w.alloc (.cells m.cells.toArray 41))
  generalize w.alloc (.cells m.cells.toArray 41) = w1 at B0 M0 ⊢
  have MM : Hid (∀ j u, m.cells[j]? = some u → w1.cell? ⟨b, j, none⟩ = some u) := hid (fun j u hu => by rw [cell_at M0.out]; simpa using hu)
  have q0 : w1.cell? ⟨b, 0, none⟩ = some (.int .i64 (k : Int)) := by rw [← HK.out]; exact MM.out 0 _ rfl
  have q1 : w1.cell? ⟨b, 1, none⟩ = some (.int .i64 m.f) := MM.out 1 _ rfl
  have q2 : w1.cell? ⟨b, 2, none⟩ = some (.int .i64 m.t) := MM.out 2 _ rfl
  have q3 : w1.cell? ⟨b, 3, none⟩ = some (.int .i64 m.v) := MM.out 3 _ rfl
  clear HK MM
  cases cF with
  | true =>
    cases cT with
    | true =>
      rw [show (if true = true then (7 : Int) else n - 1) = 7 from rfl] at hr
      cases eF : inR m.f 0 7 with
      | false =>
        rw [eF] at hr
        have F : Hid (r = 111) := hid (by rw [← hr.out]; rfl)
        clear hr
        go_wp2_with (first | (go_at_call 39; refine (C35.out _).mono ?_; rintro e w' ⟨rfl, hw'⟩; subst w') | (go_at_call 40; refine (rwithin_b _ _ _).mono ?_; rintro e w' ⟨rfl, hw'⟩; subst w') | (go_at_call 41; refine (C12.out _).mono ?_; rintro e w' ⟨rfl, hw'⟩; subst w') | (go_at_call 42; refine (C13.out _).mono ?_; rintro e w' ⟨rfl, hw'⟩; subst w') | (go_at_call 43; refine (C37.out _).mono ?_; rintro e w' ⟨rfl, hw'⟩; subst w'))
        go_ret
        exact ⟨by rw [F.out]; rfl, B0.out⟩
      | true =>
      rw [eF] at hr
      cases eT : inR m.t 0 7 with
      | false =>
        rw [eT] at hr
        have F : Hid (r = 112) := hid (by rw [← hr.out]; rfl)
        clear hr
        go_wp2_with (first | (go_at_call 39; refine (C35.out _).mono ?_; rintro e w' ⟨rfl, hw'⟩; subst w') | (go_at_call 40; refine (rwithin_b _ _ _).mono ?_; rintro e w' ⟨rfl, hw'⟩; subst w') | (go_at_call 41; refine (C12.out _).mono ?_; rintro e w' ⟨rfl, hw'⟩; subst w') | (go_at_call 42; refine (C13.out _).mono ?_; rintro e w' ⟨rfl, hw'⟩; subst w') | (go_at_call 43; refine (C37.out _).mono ?_; rintro e w' ⟨rfl, hw'⟩; subst w'))
        go_ret
        exact ⟨by rw [F.out]; rfl, B0.out⟩
      | true =>
      rw [eT] at hr
      have hr : Hid ((if (hv && !inR m.v 0 1099511627776) = true then 113 else if nu = false then 114 else if bo = false then 115 else if ex = true then 116 else 0) = r) := hid (by rw [← hr.out]; simp)
      cases ev : inR m.v 0 1099511627776 with
      | false =>
        cases hv with
        | true =>
          rw [ev] at hr
          have F : Hid (r = 113) := hid (by rw [← hr.out]; rfl)
          clear hr
          go_wp2_with (first | (go_at_call 39; refine (C35.out _).mono ?_; rintro e w' ⟨rfl, hw'⟩; subst w') | (go_at_call 40; refine (rwithin_b _ _ _).mono ?_; rintro e w' ⟨rfl, hw'⟩; subst w') | (go_at_call 41; refine (C12.out _).mono ?_; rintro e w' ⟨rfl, hw'⟩; subst w') | (go_at_call 42; refine (C13.out _).mono ?_; rintro e w' ⟨rfl, hw'⟩; subst w') | (go_at_call 43; refine (C37.out _).mono ?_; rintro e w' ⟨rfl, hw'⟩; subst w'))
          go_ret
          exact ⟨by rw [F.out]; rfl, B0.out⟩
        | false =>
          have hr : Hid ((if nu = false then 114 else if bo = false then 115 else if ex = true then 116 else 0) = r) := hid (by rw [← hr.out]; rfl)
          go_wp2_with (first | (go_at_call 39; refine (C35.out _).mono ?_; rintro e w' ⟨rfl, hw'⟩; subst w') | (go_at_call 40; refine (rwithin_b _ _ _).mono ?_; rintro e w' ⟨rfl, hw'⟩; subst w') | (go_at_call 41; refine (C12.out _).mono ?_; rintro e w' ⟨rfl, hw'⟩; subst w') | (go_at_call 42; refine (C13.out _).mono ?_; rintro e w' ⟨rfl, hw'⟩; subst w') | (go_at_call 43; refine (C37.out _).mono ?_; rintro e w' ⟨rfl, hw'⟩; subst w') | (refine wpList_load_row rfl 41 _ rfl b rfl 41 m.cells.toArray (0, 0) _ M0.out Tryd.underlying41 rfl I34.out ?_))
          refine (H38.out _ B0.out).mono ?_
          rintro e w2 ⟨rfl, hb2⟩
          have M2 : Hid (w2.heap[b]? = some (.cells m.cells.toArray 41 (0, 0))) := hid (by rw [hb2.block _ (Array.getElem?_eq_some_iff.1 M0.out).1]; exact M0.out)
          have B2 := hid (b2 B0.out hb2)
          clear hb2 q0 q1 q2 q3
          cases nu
          · have F : Hid (r = 114) := hid (by rw [← hr.out]; rfl)
            clear hr
            go_wp2
            go_ret
            exact ⟨by rw [F.out]; rfl, B2.out⟩
          go_wp2_with (refine wpList_load_row rfl 41 _ rfl b rfl 41 m.cells.toArray (0, 0) _ M2.out Tryd.underlying41 rfl I34.out ?_)
          refine (H39.out (by trivial) _ B2.out).mono ?_
          rintro e w3 ⟨rfl, hb3⟩
          have M3 : Hid (w3.heap[b]? = some (.cells m.cells.toArray 41 (0, 0))) := hid (by rw [hb3.block _ (Array.getElem?_eq_some_iff.1 M2.out).1]; exact M2.out)
          have B3 := hid (b2 B2.out hb3)
          clear hb3
          cases bo
          · have F : Hid (r = 115) := hid (by rw [← hr.out]; rfl)
            clear hr
            go_wp2
            go_ret
            exact ⟨by rw [F.out]; rfl, B3.out⟩
          go_wp2_with (refine wpList_load_row rfl 41 _ rfl b rfl 41 m.cells.toArray (0, 0) _ M3.out Tryd.underlying41 rfl I34.out ?_)
          refine (H40.out _ B3.out).mono ?_
          rintro e w4 ⟨rfl, hb4⟩
          have B4 := hid (b2 B3.out hb4)
          clear hb4
          cases ex
          · have F : Hid (r = 0) := hid (by rw [← hr.out]; rfl)
            clear hr
            go_wp2
            go_ret
            exact ⟨by rw [F.out]; rfl, B4.out⟩
          · have F : Hid (r = 116) := hid (by rw [← hr.out]; rfl)
            clear hr
            go_wp2
            go_ret
            exact ⟨by rw [F.out]; rfl, B4.out⟩
      | true =>
        rw [ev] at hr
        cases hv with
        | true =>
          have hr : Hid ((if nu = false then 114 else if bo = false then 115 else if ex = true then 116 else 0) = r) := hid (by rw [← hr.out]; rfl)
          go_wp2_with (first | (go_at_call 39; refine (C35.out _).mono ?_; rintro e w' ⟨rfl, hw'⟩; subst w') | (go_at_call 40; refine (rwithin_b _ _ _).mono ?_; rintro e w' ⟨rfl, hw'⟩; subst w') | (go_at_call 41; refine (C12.out _).mono ?_; rintro e w' ⟨rfl, hw'⟩; subst w') | (go_at_call 42; refine (C13.out _).mono ?_; rintro e w' ⟨rfl, hw'⟩; subst w') | (go_at_call 43; refine (C37.out _).mono ?_; rintro e w' ⟨rfl, hw'⟩; subst w') | (refine wpList_load_row rfl 41 _ rfl b rfl 41 m.cells.toArray (0, 0) _ M0.out Tryd.underlying41 rfl I34.out ?_))
          refine (H38.out _ B0.out).mono ?_
          rintro e w2 ⟨rfl, hb2⟩
          have M2 : Hid (w2.heap[b]? = some (.cells m.cells.toArray 41 (0, 0))) := hid (by rw [hb2.block _ (Array.getElem?_eq_some_iff.1 M0.out).1]; exact M0.out)
          have B2 := hid (b2 B0.out hb2)
          clear hb2 q0 q1 q2 q3
          cases nu
          · have F : Hid (r = 114) := hid (by rw [← hr.out]; rfl)
            clear hr
            go_wp2
            go_ret
            exact ⟨by rw [F.out]; rfl, B2.out⟩
          go_wp2_with (refine wpList_load_row rfl 41 _ rfl b rfl 41 m.cells.toArray (0, 0) _ M2.out Tryd.underlying41 rfl I34.out ?_)
          refine (H39.out (by trivial) _ B2.out).mono ?_
          rintro e w3 ⟨rfl, hb3⟩
          have M3 : Hid (w3.heap[b]? = some (.cells m.cells.toArray 41 (0, 0))) := hid (by rw [hb3.block _ (Array.getElem?_eq_some_iff.1 M2.out).1]; exact M2.out)
          have B3 := hid (b2 B2.out hb3)
          clear hb3
          cases bo
          · have F : Hid (r = 115) := hid (by rw [← hr.out]; rfl)
            clear hr
            go_wp2
            go_ret
            exact ⟨by rw [F.out]; rfl, B3.out⟩
          go_wp2_with (refine wpList_load_row rfl 41 _ rfl b rfl 41 m.cells.toArray (0, 0) _ M3.out Tryd.underlying41 rfl I34.out ?_)
          refine (H40.out _ B3.out).mono ?_
          rintro e w4 ⟨rfl, hb4⟩
          have B4 := hid (b2 B3.out hb4)
          clear hb4
          cases ex
          · have F : Hid (r = 0) := hid (by rw [← hr.out]; rfl)
            clear hr
            go_wp2
            go_ret
            exact ⟨by rw [F.out]; rfl, B4.out⟩
          · have F : Hid (r = 116) := hid (by rw [← hr.out]; rfl)
            clear hr
            go_wp2
            go_ret
            exact ⟨by rw [F.out]; rfl, B4.out⟩
        | false =>
          have hr : Hid ((if nu = false then 114 else if bo = false then 115 else if ex = true then 116 else 0) = r) := hid (by rw [← hr.out]; rfl)
          go_wp2_with (first | (go_at_call 39; refine (C35.out _).mono ?_; rintro e w' ⟨rfl, hw'⟩; subst w') | (go_at_call 40; refine (rwithin_b _ _ _).mono ?_; rintro e w' ⟨rfl, hw'⟩; subst w') | (go_at_call 41; refine (C12.out _).mono ?_; rintro e w' ⟨rfl, hw'⟩; subst w') | (go_at_call 42; refine (C13.out _).mono ?_; rintro e w' ⟨rfl, hw'⟩; subst w') | (go_at_call 43; refine (C37.out _).mono ?_; rintro e w' ⟨rfl, hw'⟩; subst w') | (refine wpList_load_row rfl 41 _ rfl b rfl 41 m.cells.toArray (0, 0) _ M0.out Tryd.underlying41 rfl I34.out ?_))
          refine (H38.out _ B0.out).mono ?_
          rintro e w2 ⟨rfl, hb2⟩
          have M2 : Hid (w2.heap[b]? = some (.cells m.cells.toArray 41 (0, 0))) := hid (by rw [hb2.block _ (Array.getElem?_eq_some_iff.1 M0.out).1]; exact M0.out)
          have B2 := hid (b2 B0.out hb2)
          clear hb2 q0 q1 q2 q3
          cases nu
          · have F : Hid (r = 114) := hid (by rw [← hr.out]; rfl)
            clear hr
            go_wp2
            go_ret
            exact ⟨by rw [F.out]; rfl, B2.out⟩
          go_wp2_with (refine wpList_load_row rfl 41 _ rfl b rfl 41 m.cells.toArray (0, 0) _ M2.out Tryd.underlying41 rfl I34.out ?_)
          refine (H39.out (by trivial) _ B2.out).mono ?_
          rintro e w3 ⟨rfl, hb3⟩
          have M3 : Hid (w3.heap[b]? = some (.cells m.cells.toArray 41 (0, 0))) := hid (by rw [hb3.block _ (Array.getElem?_eq_some_iff.1 M2.out).1]; exact M2.out)
          have B3 := hid (b2 B2.out hb3)
          clear hb3
          cases bo
          · have F : Hid (r = 115) := hid (by rw [← hr.out]; rfl)
            clear hr
            go_wp2
            go_ret
            exact ⟨by rw [F.out]; rfl, B3.out⟩
          go_wp2_with (refine wpList_load_row rfl 41 _ rfl b rfl 41 m.cells.toArray (0, 0) _ M3.out Tryd.underlying41 rfl I34.out ?_)
          refine (H40.out _ B3.out).mono ?_
          rintro e w4 ⟨rfl, hb4⟩
          have B4 := hid (b2 B3.out hb4)
          clear hb4
          cases ex
          · have F : Hid (r = 0) := hid (by rw [← hr.out]; rfl)
            clear hr
            go_wp2
            go_ret
            exact ⟨by rw [F.out]; rfl, B4.out⟩
          · have F : Hid (r = 116) := hid (by rw [← hr.out]; rfl)
            clear hr
            go_wp2
            go_ret
            exact ⟨by rw [F.out]; rfl, B4.out⟩
    | false =>
      rw [show (if true = true then (7 : Int) else n - 1) = 7 from rfl, show (if false = true then (7 : Int) else n - 1) = (n - 1) from rfl] at hr
      cases eF : inR m.f 0 7 with
      | false =>
        rw [eF] at hr
        have F : Hid (r = 111) := hid (by rw [← hr.out]; rfl)
        clear hr
        go_wp2_with (first | (go_at_call 39; refine (C35.out _).mono ?_; rintro e w' ⟨rfl, hw'⟩; subst w') | (go_at_call 40; refine (rwithin_b _ _ _).mono ?_; rintro e w' ⟨rfl, hw'⟩; subst w') | (go_at_call 41; refine (C12.out _).mono ?_; rintro e w' ⟨rfl, hw'⟩; subst w') | (go_at_call 42; refine (C13.out _).mono ?_; rintro e w' ⟨rfl, hw'⟩; subst w') | (go_at_call 43; refine (C37.out _).mono ?_; rintro e w' ⟨rfl, hw'⟩; subst w'))
        go_ret
        exact ⟨by rw [F.out]; rfl, B0.out⟩
      | true =>
      rw [eF] at hr
      cases eT : inR m.t 0 (n - 1) with
      | false =>
        rw [eT] at hr
        have F : Hid (r = 112) := hid (by rw [← hr.out]; rfl)
        clear hr
        go_wp2_with (first | (go_at_call 39; refine (C35.out _).mono ?_; rintro e w' ⟨rfl, hw'⟩; subst w') | (go_at_call 40; refine (rwithin_b _ _ _).mono ?_; rintro e w' ⟨rfl, hw'⟩; subst w') | (go_at_call 41; refine (C12.out _).mono ?_; rintro e w' ⟨rfl, hw'⟩; subst w') | (go_at_call 42; refine (C13.out _).mono ?_; rintro e w' ⟨rfl, hw'⟩; subst w') | (go_at_call 43; refine (C37.out _).mono ?_; rintro e w' ⟨rfl, hw'⟩; subst w'))
        go_ret
        exact ⟨by rw [F.out]; rfl, B0.out⟩
      | true =>
      rw [eT] at hr
      have hr : Hid ((if (hv && !inR m.v 0 1099511627776) = true then 113 else if nu = false then 114 else if bo = false then 115 else if ex = true then 116 else 0) = r) := hid (by rw [← hr.out]; simp)
      cases ev : inR m.v 0 1099511627776 with
      | false =>
        cases hv with
        | true =>
          rw [ev] at hr
          have F : Hid (r = 113) := hid (by rw [← hr.out]; rfl)
          clear hr
          go_wp2_with (first | (go_at_call 39; refine (C35.out _).mono ?_; rintro e w' ⟨rfl, hw'⟩; subst w') | (go_at_call 40; refine (rwithin_b _ _ _).mono ?_; rintro e w' ⟨rfl, hw'⟩; subst w') | (go_at_call 41; refine (C12.out _).mono ?_; rintro e w' ⟨rfl, hw'⟩; subst w') | (go_at_call 42; refine (C13.out _).mono ?_; rintro e w' ⟨rfl, hw'⟩; subst w') | (go_at_call 43; refine (C37.out _).mono ?_; rintro e w' ⟨rfl, hw'⟩; subst w'))
          go_ret
          exact ⟨by rw [F.out]; rfl, B0.out⟩
        | false =>
          have hr : Hid ((if nu = false then 114 else if bo = false then 115 else if ex = true then 116 else 0) = r) := hid (by rw [← hr.out]; rfl)
          go_wp2_with (first | (go_at_call 39; refine (C35.out _).mono ?_; rintro e w' ⟨rfl, hw'⟩; subst w') | (go_at_call 40; refine (rwithin_b _ _ _).mono ?_; rintro e w' ⟨rfl, hw'⟩; subst w') | (go_at_call 41; refine (C12.out _).mono ?_; rintro e w' ⟨rfl, hw'⟩; subst w') | (go_at_call 42; refine (C13.out _).mono ?_; rintro e w' ⟨rfl, hw'⟩; subst w') | (go_at_call 43; refine (C37.out _).mono ?_; rintro e w' ⟨rfl, hw'⟩; subst w') | (refine wpList_load_row rfl 41 _ rfl b rfl 41 m.cells.toArray (0, 0) _ M0.out Tryd.underlying41 rfl I34.out ?_))
          refine (H38.out _ B0.out).mono ?_
          rintro e w2 ⟨rfl, hb2⟩
          have M2 : Hid (w2.heap[b]? = some (.cells m.cells.toArray 41 (0, 0))) := hid (by rw [hb2.block _ (Array.getElem?_eq_some_iff.1 M0.out).1]; exact M0.out)
          have B2 := hid (b2 B0.out hb2)
          clear hb2 q0 q1 q2 q3
          cases nu
          · have F : Hid (r = 114) := hid (by rw [← hr.out]; rfl)
            clear hr
            go_wp2
            go_ret
            exact ⟨by rw [F.out]; rfl, B2.out⟩
          go_wp2_with (refine wpList_load_row rfl 41 _ rfl b rfl 41 m.cells.toArray (0, 0) _ M2.out Tryd.underlying41 rfl I34.out ?_)
          refine (H39.out (by trivial) _ B2.out).mono ?_
          rintro e w3 ⟨rfl, hb3⟩
          have M3 : Hid (w3.heap[b]? = some (.cells m.cells.toArray 41 (0, 0))) := hid (by rw [hb3.block _ (Array.getElem?_eq_some_iff.1 M2.out).1]; exact M2.out)
          have B3 := hid (b2 B2.out hb3)
          clear hb3
          cases bo
          · have F : Hid (r = 115) := hid (by rw [← hr.out]; rfl)
            clear hr
            go_wp2
            go_ret
            exact ⟨by rw [F.out]; rfl, B3.out⟩
          go_wp2_with (refine wpList_load_row rfl 41 _ rfl b rfl 41 m.cells.toArray (0, 0) _ M3.out Tryd.underlying41 rfl I34.out ?_)
          refine (H40.out _ B3.out).mono ?_
          rintro e w4 ⟨rfl, hb4⟩
          have B4 := hid (b2 B3.out hb4)
          clear hb4
          cases ex
          · have F : Hid (r = 0) := hid (by rw [← hr.out]; rfl)
            clear hr
            go_wp2
            go_ret
            exact ⟨by rw [F.out]; rfl, B4.out⟩
          · have F : Hid (r = 116) := hid (by rw [← hr.out]; rfl)
            clear hr
            go_wp2
            go_ret
            exact ⟨by rw [F.out]; rfl, B4.out⟩
      | true =>
        rw [ev] at hr
        cases hv with
        | true =>
          have hr : Hid ((if nu = false then 114 else if bo = false then 115 else if ex = true then 116 else 0) = r) := hid (by rw [← hr.out]; rfl)
          go_wp2_with (first | (go_at_call 39; refine (C35.out _).mono ?_; rintro e w' ⟨rfl, hw'⟩; subst w') | (go_at_call 40; refine (rwithin_b _ _ _).mono ?_; rintro e w' ⟨rfl, hw'⟩; subst w') | (go_at_call 41; refine (C12.out _).mono ?_; rintro e w' ⟨rfl, hw'⟩; subst w') | (go_at_call 42; refine (C13.out _).mono ?_; rintro e w' ⟨rfl, hw'⟩; subst w') | (go_at_call 43; refine (C37.out _).mono ?_; rintro e w' ⟨rfl, hw'⟩; subst w') | (refine wpList_load_row rfl 41 _ rfl b rfl 41 m.cells.toArray (0, 0) _ M0.out Tryd.underlying41 rfl I34.out ?_))
          refine (H38.out _ B0.out).mono ?_
          rintro e w2 ⟨rfl, hb2⟩
          have M2 : Hid (w2.heap[b]? = some (.cells m.cells.toArray 41 (0, 0))) := hid (by rw [hb2.block _ (Array.getElem?_eq_some_iff.1 M0.out).1]; exact M0.out)
          have B2 := hid (b2 B0.out hb2)
          clear hb2 q0 q1 q2 q3
          cases nu
          · have F : Hid (r = 114) := hid (by rw [← hr.out]; rfl)
            clear hr
            go_wp2
            go_ret
            exact ⟨by rw [F.out]; rfl, B2.out⟩
          go_wp2_with (refine wpList_load_row rfl 41 _ rfl b rfl 41 m.cells.toArray (0, 0) _ M2.out Tryd.underlying41 rfl I34.out ?_)
          refine (H39.out (by trivial) _ B2.out).mono ?_
          rintro e w3 ⟨rfl, hb3⟩
          have M3 : Hid (w3.heap[b]? = some (.cells m.cells.toArray 41 (0, 0))) := hid (by rw [hb3.block _ (Array.getElem?_eq_some_iff.1 M2.out).1]; exact M2.out)
          have B3 := hid (b2 B2.out hb3)
          clear hb3
          cases bo
          · have F : Hid (r = 115) := hid (by rw [← hr.out]; rfl)
            clear hr
            go_wp2
            go_ret
            exact ⟨by rw [F.out]; rfl, B3.out⟩
          go_wp2_with (refine wpList_load_row rfl 41 _ rfl b rfl 41 m.cells.toArray (0, 0) _ M3.out Tryd.underlying41 rfl I34.out ?_)
          refine (H40.out _ B3.out).mono ?_
          rintro e w4 ⟨rfl, hb4⟩
          have B4 := hid (b2 B3.out hb4)
          clear hb4
          cases ex
          · have F : Hid (r = 0) := hid (by rw [← hr.out]; rfl)
            clear hr
            go_wp2
            go_ret
            exact ⟨by rw [F.out]; rfl, B4.out⟩
          · have F : Hid (r = 116) := hid (by rw [← hr.out]; rfl)
            clear hr
            go_wp2
            go_ret
            exact ⟨by rw [F.out]; rfl, B4.out⟩
        | false =>
          have hr : Hid ((if nu = false then 114 else if bo = false then 115 else if ex = true then 116 else 0) = r) := hid (by rw [← hr.out]; rfl)
          go_wp2_with (first | (go_at_call 39; refine (C35.out _).mono ?_; rintro e w' ⟨rfl, hw'⟩; subst w') | (go_at_call 40; refine (rwithin_b _ _ _).mono ?_; rintro e w' ⟨rfl, hw'⟩; subst w') | (go_at_call 41; refine (C12.out _).mono ?_; rintro e w' ⟨rfl, hw'⟩; subst w') | (go_at_call 42; refine (C13.out _).mono ?_; rintro e w' ⟨rfl, hw'⟩; subst w') | (go_at_call 43; refine (C37.out _).mono ?_; rintro e w' ⟨rfl, hw'⟩; subst w') | (refine wpList_load_row rfl 41 _ rfl b rfl 41 m.cells.toArray (0, 0) _ M0.out Tryd.underlying41 rfl I34.out ?_))
          refine (H38.out _ B0.out).mono ?_
          rintro e w2 ⟨rfl, hb2⟩
          have M2 : Hid (w2.heap[b]? = some (.cells m.cells.toArray 41 (0, 0))) := hid (by rw [hb2.block _ (Array.getElem?_eq_some_iff.1 M0.out).1]; exact M0.out)
          have B2 := hid (b2 B0.out hb2)
          clear hb2 q0 q1 q2 q3
          cases nu
          · have F : Hid (r = 114) := hid (by rw [← hr.out]; rfl)
            clear hr
            go_wp2
            go_ret
            exact ⟨by rw [F.out]; rfl, B2.out⟩
          go_wp2_with (refine wpList_load_row rfl 41 _ rfl b rfl 41 m.cells.toArray (0, 0) _ M2.out Tryd.underlying41 rfl I34.out ?_)
          refine (H39.out (by trivial) _ B2.out).mono ?_
          rintro e w3 ⟨rfl, hb3⟩
          have M3 : Hid (w3.heap[b]? = some (.cells m.cells.toArray 41 (0, 0))) := hid (by rw [hb3.block _ (Array.getElem?_eq_some_iff.1 M2.out).1]; exact M2.out)
          have B3 := hid (b2 B2.out hb3)
          clear hb3
          cases bo
          · have F : Hid (r = 115) := hid (by rw [← hr.out]; rfl)
            clear hr
            go_wp2
            go_ret
            exact ⟨by rw [F.out]; rfl, B3.out⟩
          go_wp2_with (refine wpList_load_row rfl 41 _ rfl b rfl 41 m.cells.toArray (0, 0) _ M3.out Tryd.underlying41 rfl I34.out ?_)
          refine (H40.out _ B3.out).mono ?_
          rintro e w4 ⟨rfl, hb4⟩
          have B4 := hid (b2 B3.out hb4)
          clear hb4
          cases ex
          · have F : Hid (r = 0) := hid (by rw [← hr.out]; rfl)
            clear hr
            go_wp2
            go_ret
            exact ⟨by rw [F.out]; rfl, B4.out⟩
          · have F : Hid (r = 116) := hid (by rw [← hr.out]; rfl)
            clear hr
            go_wp2
            go_ret
            exact ⟨by rw [F.out]; rfl, B4.out⟩
  | false =>
    cases cT with
    | true =>
      rw [show (if false = true then (7 : Int) else n - 1) = (n - 1) from rfl, show (if true = true then (7 : Int) else n - 1) = 7 from rfl] at hr
      cases eF : inR m.f 0 (n - 1) with
      | false =>
        rw [eF] at hr
        have F : Hid (r = 111) := hid (by rw [← hr.out]; rfl)
        clear hr
        go_wp2_with (first | (go_at_call 39; refine (C35.out _).mono ?_; rintro e w' ⟨rfl, hw'⟩; subst w') | (go_at_call 40; refine (rwithin_b _ _ _).mono ?_; rintro e w' ⟨rfl, hw'⟩; subst w') | (go_at_call 41; refine (C12.out _).mono ?_; rintro e w' ⟨rfl, hw'⟩; subst w') | (go_at_call 42; refine (C13.out _).mono ?_; rintro e w' ⟨rfl, hw'⟩; subst w') | (go_at_call 43; refine (C37.out _).mono ?_; rintro e w' ⟨rfl, hw'⟩; subst w'))
        go_ret
        exact ⟨by rw [F.out]; rfl, B0.out⟩
      | true =>
      rw [eF] at hr
      cases eT : inR m.t 0 7 with
      | false =>
        rw [eT] at hr
        have F : Hid (r = 112) := hid (by rw [← hr.out]; rfl)
        clear hr
        go_wp2_with (first | (go_at_call 39; refine (C35.out _).mono ?_; rintro e w' ⟨rfl, hw'⟩; subst w') | (go_at_call 40; refine (rwithin_b _ _ _).mono ?_; rintro e w' ⟨rfl, hw'⟩; subst w') | (go_at_call 41; refine (C12.out _).mono ?_; rintro e w' ⟨rfl, hw'⟩; subst w') | (go_at_call 42; refine (C13.out _).mono ?_; rintro e w' ⟨rfl, hw'⟩; subst w') | (go_at_call 43; refine (C37.out _).mono ?_; rintro e w' ⟨rfl, hw'⟩; subst w'))
        go_ret
        exact ⟨by rw [F.out]; rfl, B0.out⟩
      | true =>
      rw [eT] at hr
      have hr : Hid ((if (hv && !inR m.v 0 1099511627776) = true then 113 else if nu = false then 114 else if bo = false then 115 else if ex = true then 116 else 0) = r) := hid (by rw [← hr.out]; simp)
      cases ev : inR m.v 0 1099511627776 with
      | false =>
        cases hv with
        | true =>
          rw [ev] at hr
          have F : Hid (r = 113) := hid (by rw [← hr.out]; rfl)
          clear hr
          go_wp2_with (first | (go_at_call 39; refine (C35.out _).mono ?_; rintro e w' ⟨rfl, hw'⟩; subst w') | (go_at_call 40; refine (rwithin_b _ _ _).mono ?_; rintro e w' ⟨rfl, hw'⟩; subst w') | (go_at_call 41; refine (C12.out _).mono ?_; rintro e w' ⟨rfl, hw'⟩; subst w') | (go_at_call 42; refine (C13.out _).mono ?_; rintro e w' ⟨rfl, hw'⟩; subst w') | (go_at_call 43; refine (C37.out _).mono ?_; rintro e w' ⟨rfl, hw'⟩; subst w'))
          go_ret
          exact ⟨by rw [F.out]; rfl, B0.out⟩
        | false =>
          have hr : Hid ((if nu = false then 114 else if bo = false then 115 else if ex = true then 116 else 0) = r) := hid (by rw [← hr.out]; rfl)
          go_wp2_with (first | (go_at_call 39; refine (C35.out _).mono ?_; rintro e w' ⟨rfl, hw'⟩; subst w') | (go_at_call 40; refine (rwithin_b _ _ _).mono ?_; rintro e w' ⟨rfl, hw'⟩; subst w') | (go_at_call 41; refine (C12.out _).mono ?_; rintro e w' ⟨rfl, hw'⟩; subst w') | (go_at_call 42; refine (C13.out _).mono ?_; rintro e w' ⟨rfl, hw'⟩; subst w') | (go_at_call 43; refine (C37.out _).mono ?_; rintro e w' ⟨rfl, hw'⟩; subst w') | (refine wpList_load_row rfl 41 _ rfl b rfl 41 m.cells.toArray (0, 0) _ M0.out Tryd.underlying41 rfl I34.out ?_))
          refine (H38.out _ B0.out).mono ?_
          rintro e w2 ⟨rfl, hb2⟩
          have M2 : Hid (w2.heap[b]? = some (.cells m.cells.toArray 41 (0, 0))) := hid (by rw [hb2.block _ (Array.getElem?_eq_some_iff.1 M0.out).1]; exact M0.out)
          have B2 := hid (b2 B0.out hb2)
          clear hb2 q0 q1 q2 q3
          cases nu
          · have F : Hid (r = 114) := hid (by rw [← hr.out]; rfl)
            clear hr
            go_wp2
            go_ret
            exact ⟨by rw [F.out]; rfl, B2.out⟩
          go_wp2_with (refine wpList_load_row rfl 41 _ rfl b rfl 41 m.cells.toArray (0, 0) _ M2.out Tryd.underlying41 rfl I34.out ?_)
          refine (H39.out (by trivial) _ B2.out).mono ?_
          rintro e w3 ⟨rfl, hb3⟩
          have M3 : Hid (w3.heap[b]? = some (.cells m.cells.toArray 41 (0, 0))) := hid (by rw [hb3.block _ (Array.getElem?_eq_some_iff.1 M2.out).1]; exact M2.out)
          have B3 := hid (b2 B2.out hb3)
          clear hb3
          cases bo
          · have F : Hid (r = 115) := hid (by rw [← hr.out]; rfl)
            clear hr
            go_wp2
            go_ret
            exact ⟨by rw [F.out]; rfl, B3.out⟩
          go_wp2_with (refine wpList_load_row rfl 41 _ rfl b rfl 41 m.cells.toArray (0, 0) _ M3.out Tryd.underlying41 rfl I34.out ?_)
          refine (H40.out _ B3.out).mono ?_
          rintro e w4 ⟨rfl, hb4⟩
          have B4 := hid (b2 B3.out hb4)
          clear hb4
          cases ex
          · have F : Hid (r = 0) := hid (by rw [← hr.out]; rfl)
            clear hr
            go_wp2
            go_ret
            exact ⟨by rw [F.out]; rfl, B4.out⟩
          · have F : Hid (r = 116) := hid (by rw [← hr.out]; rfl)
            clear hr
            go_wp2
            go_ret
            exact ⟨by rw [F.out]; rfl, B4.out⟩
      | true =>
        rw [ev] at hr
        cases hv with
        | true =>
          have hr : Hid ((if nu = false then 114 else if bo = false then 115 else if ex = true then 116 else 0) = r) := hid (by rw [← hr.out]; rfl)
          go_wp2_with (first | (go_at_call 39; refine (C35.out _).mono ?_; rintro e w' ⟨rfl, hw'⟩; subst w') | (go_at_call 40; refine (rwithin_b _ _ _).mono ?_; rintro e w' ⟨rfl, hw'⟩; subst w') | (go_at_call 41; refine (C12.out _).mono ?_; rintro e w' ⟨rfl, hw'⟩; subst w') | (go_at_call 42; refine (C13.out _).mono ?_; rintro e w' ⟨rfl, hw'⟩; subst w') | (go_at_call 43; refine (C37.out _).mono ?_; rintro e w' ⟨rfl, hw'⟩; subst w') | (refine wpList_load_row rfl 41 _ rfl b rfl 41 m.cells.toArray (0, 0) _ M0.out Tryd.underlying41 rfl I34.out ?_))
          refine (H38.out _ B0.out).mono ?_
          rintro e w2 ⟨rfl, hb2⟩
          have M2 : Hid (w2.heap[b]? = some (.cells m.cells.toArray 41 (0, 0))) := hid (by rw [hb2.block _ (Array.getElem?_eq_some_iff.1 M0.out).1]; exact M0.out)
          have B2 := hid (b2 B0.out hb2)
          clear hb2 q0 q1 q2 q3
          cases nu
          · have F : Hid (r = 114) := hid (by rw [← hr.out]; rfl)
            clear hr
            go_wp2
            go_ret
            exact ⟨by rw [F.out]; rfl, B2.out⟩
          go_wp2_with (refine wpList_load_row rfl 41 _ rfl b rfl 41 m.cells.toArray (0, 0) _ M2.out Tryd.underlying41 rfl I34.out ?_)
          refine (H39.out (by trivial) _ B2.out).mono ?_
          rintro e w3 ⟨rfl, hb3⟩
          have M3 : Hid (w3.heap[b]? = some (.cells m.cells.toArray 41 (0, 0))) := hid (by rw [hb3.block _ (Array.getElem?_eq_some_iff.1 M2.out).1]; exact M2.out)
          have B3 := hid (b2 B2.out hb3)
          clear hb3
          cases bo
          · have F : Hid (r = 115) := hid (by rw [← hr.out]; rfl)
            clear hr
            go_wp2
            go_ret
            exact ⟨by rw [F.out]; rfl, B3.out⟩
          go_wp2_with (refine wpList_load_row rfl 41 _ rfl b rfl 41 m.cells.toArray (0, 0) _ M3.out Tryd.underlying41 rfl I34.out ?_)
          refine (H40.out _ B3.out).mono ?_
          rintro e w4 ⟨rfl, hb4⟩
          have B4 := hid (b2 B3.out hb4)
          clear hb4
          cases ex
          · have F : Hid (r = 0) := hid (by rw [← hr.out]; rfl)
            clear hr
            go_wp2
            go_ret
            exact ⟨by rw [F.out]; rfl, B4.out⟩
          · have F : Hid (r = 116) := hid (by rw [← hr.out]; rfl)
            clear hr
            go_wp2
            go_ret
            exact ⟨by rw [F.out]; rfl, B4.out⟩
        | false =>
          have hr : Hid ((if nu = false then 114 else if bo = false then 115 else if ex = true then 116 else 0) = r) := hid (by rw [← hr.out]; rfl)
          go_wp2_with (first | (go_at_call 39; refine (C35.out _).mono ?_; rintro e w' ⟨rfl, hw'⟩; subst w') | (go_at_call 40; refine (rwithin_b _ _ _).mono ?_; rintro e w' ⟨rfl, hw'⟩; subst w') | (go_at_call 41; refine (C12.out _).mono ?_; rintro e w' ⟨rfl, hw'⟩; subst w') | (go_at_call 42; refine (C13.out _).mono ?_; rintro e w' ⟨rfl, hw'⟩; subst w') | (go_at_call 43; refine (C37.out _).mono ?_; rintro e w' ⟨rfl, hw'⟩; subst w') | (refine wpList_load_row rfl 41 _ rfl b rfl 41 m.cells.toArray (0, 0) _ M0.out Tryd.underlying41 rfl I34.out ?_))
          refine (H38.out _ B0.out).mono ?_
          rintro e w2 ⟨rfl, hb2⟩
          have M2 : Hid (w2.heap[b]? = some (.cells m.cells.toArray 41 (0, 0))) := hid (by rw [hb2.block _ (Array.getElem?_eq_some_iff.1 M0.out).1]; exact M0.out)
          have B2 := hid (b2 B0.out hb2)
          clear hb2 q0 q1 q2 q3
          cases nu
          · have F : Hid (r = 114) := hid (by rw [← hr.out]; rfl)
            clear hr
            go_wp2
            go_ret
            exact ⟨by rw [F.out]; rfl, B2.out⟩
          go_wp2_with (refine wpList_load_row rfl 41 _ rfl b rfl 41 m.cells.toArray (0, 0) _ M2.out Tryd.underlying41 rfl I34.out ?_)
          refine (H39.out (by trivial) _ B2.out).mono ?_
          rintro e w3 ⟨rfl, hb3⟩
          have M3 : Hid (w3.heap[b]? = some (.cells m.cells.toArray 41 (0, 0))) := hid (by rw [hb3.block _ (Array.getElem?_eq_some_iff.1 M2.out).1]; exact M2.out)
          have B3 := hid (b2 B2.out hb3)
          clear hb3
          cases bo
          · have F : Hid (r = 115) := hid (by rw [← hr.out]; rfl)
            clear hr
            go_wp2
            go_ret
            exact ⟨by rw [F.out]; rfl, B3.out⟩
          go_wp2_with (refine wpList_load_row rfl 41 _ rfl b rfl 41 m.cells.toArray (0, 0) _ M3.out Tryd.underlying41 rfl I34.out ?_)
          refine (H40.out _ B3.out).mono ?_
          rintro e w4 ⟨rfl, hb4⟩
          have B4 := hid (b2 B3.out hb4)
          clear hb4
          cases ex
          · have F : Hid (r = 0) := hid (by rw [← hr.out]; rfl)
            clear hr
            go_wp2
            go_ret
            exact ⟨by rw [F.out]; rfl, B4.out⟩
          · have F : Hid (r = 116) := hid (by rw [← hr.out]; rfl)
            clear hr
            go_wp2
            go_ret
            exact ⟨by rw [F.out]; rfl, B4.out⟩
    | false =>
      rw [show (if false = true then (7 : Int) else n - 1) = (n - 1) from rfl] at hr
      cases eF : inR m.f 0 (n - 1) with
      | false =>
        rw [eF] at hr
        have F : Hid (r = 111) := hid (by rw [← hr.out]; rfl)
        clear hr
        go_wp2_with (first | (go_at_call 39; refine (C35.out _).mono ?_; rintro e w' ⟨rfl, hw'⟩; subst w') | (go_at_call 40; refine (rwithin_b _ _ _).mono ?_; rintro e w' ⟨rfl, hw'⟩; subst w') | (go_at_call 41; refine (C12.out _).mono ?_; rintro e w' ⟨rfl, hw'⟩; subst w') | (go_at_call 42; refine (C13.out _).mono ?_; rintro e w' ⟨rfl, hw'⟩; subst w') | (go_at_call 43; refine (C37.out _).mono ?_; rintro e w' ⟨rfl, hw'⟩; subst w'))
        go_ret
        exact ⟨by rw [F.out]; rfl, B0.out⟩
      | true =>
      rw [eF] at hr
      cases eT : inR m.t 0 (n - 1) with
      | false =>
        rw [eT] at hr
        have F : Hid (r = 112) := hid (by rw [← hr.out]; rfl)
        clear hr
        go_wp2_with (first | (go_at_call 39; refine (C35.out _).mono ?_; rintro e w' ⟨rfl, hw'⟩; subst w') | (go_at_call 40; refine (rwithin_b _ _ _).mono ?_; rintro e w' ⟨rfl, hw'⟩; subst w') | (go_at_call 41; refine (C12.out _).mono ?_; rintro e w' ⟨rfl, hw'⟩; subst w') | (go_at_call 42; refine (C13.out _).mono ?_; rintro e w' ⟨rfl, hw'⟩; subst w') | (go_at_call 43; refine (C37.out _).mono ?_; rintro e w' ⟨rfl, hw'⟩; subst w'))
        go_ret
        exact ⟨by rw [F.out]; rfl, B0.out⟩
      | true =>
      rw [eT] at hr
      by_cases hft : m.f = m.t
      · have eft : (m.f == m.t) = true := by simpa using hft
        rw [decide_eq_true hft] at hr
        clear hft
        have F : Hid (r = 112) := hid (by rw [← hr.out]; rfl)
        clear hr
        go_wp2_with (first | (go_at_call 39; refine (C35.out _).mono ?_; rintro e w' ⟨rfl, hw'⟩; subst w') | (go_at_call 40; refine (rwithin_b _ _ _).mono ?_; rintro e w' ⟨rfl, hw'⟩; subst w') | (go_at_call 41; refine (C12.out _).mono ?_; rintro e w' ⟨rfl, hw'⟩; subst w') | (go_at_call 42; refine (C13.out _).mono ?_; rintro e w' ⟨rfl, hw'⟩; subst w') | (go_at_call 43; refine (C37.out _).mono ?_; rintro e w' ⟨rfl, hw'⟩; subst w'))
        go_ret
        exact ⟨by rw [F.out]; rfl, B0.out⟩
      have eft : (m.f == m.t) = false := by simpa using hft
      rw [decide_eq_false hft] at hr
      clear hft
      have hr : Hid ((if (hv && !inR m.v 0 1099511627776) = true then 113 else if nu = false then 114 else if bo = false then 115 else if ex = true then 116 else 0) = r) := hid (by rw [← hr.out]; rfl)
      cases ev : inR m.v 0 1099511627776 with
      | false =>
        cases hv with
        | true =>
          rw [ev] at hr
          have F : Hid (r = 113) := hid (by rw [← hr.out]; rfl)
          clear hr
          go_wp2_with (first | (go_at_call 39; refine (C35.out _).mono ?_; rintro e w' ⟨rfl, hw'⟩; subst w') | (go_at_call 40; refine (rwithin_b _ _ _).mono ?_; rintro e w' ⟨rfl, hw'⟩; subst w') | (go_at_call 41; refine (C12.out _).mono ?_; rintro e w' ⟨rfl, hw'⟩; subst w') | (go_at_call 42; refine (C13.out _).mono ?_; rintro e w' ⟨rfl, hw'⟩; subst w') | (go_at_call 43; refine (C37.out _).mono ?_; rintro e w' ⟨rfl, hw'⟩; subst w'))
          go_ret
          exact ⟨by rw [F.out]; rfl, B0.out⟩
        | false =>
          have hr : Hid ((if nu = false then 114 else if bo = false then 115 else if ex = true then 116 else 0) = r) := hid (by rw [← hr.out]; rfl)
          go_wp2_with (first | (go_at_call 39; refine (C35.out _).mono ?_; rintro e w' ⟨rfl, hw'⟩; subst w') | (go_at_call 40; refine (rwithin_b _ _ _).mono ?_; rintro e w' ⟨rfl, hw'⟩; subst w') | (go_at_call 41; refine (C12.out _).mono ?_; rintro e w' ⟨rfl, hw'⟩; subst w') | (go_at_call 42; refine (C13.out _).mono ?_; rintro e w' ⟨rfl, hw'⟩; subst w') | (go_at_call 43; refine (C37.out _).mono ?_; rintro e w' ⟨rfl, hw'⟩; subst w') | (refine wpList_load_row rfl 41 _ rfl b rfl 41 m.cells.toArray (0, 0) _ M0.out Tryd.underlying41 rfl I34.out ?_))
          refine (H38.out _ B0.out).mono ?_
          rintro e w2 ⟨rfl, hb2⟩
          have M2 : Hid (w2.heap[b]? = some (.cells m.cells.toArray 41 (0, 0))) := hid (by rw [hb2.block _ (Array.getElem?_eq_some_iff.1 M0.out).1]; exact M0.out)
          have B2 := hid (b2 B0.out hb2)
          clear hb2 q0 q1 q2 q3
          cases nu
          · have F : Hid (r = 114) := hid (by rw [← hr.out]; rfl)
            clear hr
            go_wp2
            go_ret
            exact ⟨by rw [F.out]; rfl, B2.out⟩
          go_wp2_with (refine wpList_load_row rfl 41 _ rfl b rfl 41 m.cells.toArray (0, 0) _ M2.out Tryd.underlying41 rfl I34.out ?_)
          refine (H39.out (by trivial) _ B2.out).mono ?_
          rintro e w3 ⟨rfl, hb3⟩
          have M3 : Hid (w3.heap[b]? = some (.cells m.cells.toArray 41 (0, 0))) := hid (by rw [hb3.block _ (Array.getElem?_eq_some_iff.1 M2.out).1]; exact M2.out)
          have B3 := hid (b2 B2.out hb3)
          clear hb3
          cases bo
          · have F : Hid (r = 115) := hid (by rw [← hr.out]; rfl)
            clear hr
            go_wp2
            go_ret
            exact ⟨by rw [F.out]; rfl, B3.out⟩
          go_wp2_with (refine wpList_load_row rfl 41 _ rfl b rfl 41 m.cells.toArray (0, 0) _ M3.out Tryd.underlying41 rfl I34.out ?_)
          refine (H40.out _ B3.out).mono ?_
          rintro e w4 ⟨rfl, hb4⟩
          have B4 := hid (b2 B3.out hb4)
          clear hb4
          cases ex
          · have F : Hid (r = 0) := hid (by rw [← hr.out]; rfl)
            clear hr
            go_wp2
            go_ret
            exact ⟨by rw [F.out]; rfl, B4.out⟩
          · have F : Hid (r = 116) := hid (by rw [← hr.out]; rfl)
            clear hr
            go_wp2
            go_ret
            exact ⟨by rw [F.out]; rfl, B4.out⟩
      | true =>
        rw [ev] at hr
        cases hv with
        | true =>
          have hr : Hid ((if nu = false then 114 else if bo = false then 115 else if ex = true then 116 else 0) = r) := hid (by rw [← hr.out]; rfl)
          go_wp2_with (first | (go_at_call 39; refine (C35.out _).mono ?_; rintro e w' ⟨rfl, hw'⟩; subst w') | (go_at_call 40; refine (rwithin_b _ _ _).mono ?_; rintro e w' ⟨rfl, hw'⟩; subst w') | (go_at_call 41; refine (C12.out _).mono ?_; rintro e w' ⟨rfl, hw'⟩; subst w') | (go_at_call 42; refine (C13.out _).mono ?_; rintro e w' ⟨rfl, hw'⟩; subst w') | (go_at_call 43; refine (C37.out _).mono ?_; rintro e w' ⟨rfl, hw'⟩; subst w') | (refine wpList_load_row rfl 41 _ rfl b rfl 41 m.cells.toArray (0, 0) _ M0.out Tryd.underlying41 rfl I34.out ?_))
          refine (H38.out _ B0.out).mono ?_
          rintro e w2 ⟨rfl, hb2⟩
          have M2 : Hid (w2.heap[b]? = some (.cells m.cells.toArray 41 (0, 0))) := hid (by rw [hb2.block _ (Array.getElem?_eq_some_iff.1 M0.out).1]; exact M0.out)
          have B2 := hid (b2 B0.out hb2)
          clear hb2 q0 q1 q2 q3
          cases nu
          · have F : Hid (r = 114) := hid (by rw [← hr.out]; rfl)
            clear hr
            go_wp2
            go_ret
            exact ⟨by rw [F.out]; rfl, B2.out⟩
          go_wp2_with (refine wpList_load_row rfl 41 _ rfl b rfl 41 m.cells.toArray (0, 0) _ M2.out Tryd.underlying41 rfl I34.out ?_)
          refine (H39.out (by trivial) _ B2.out).mono ?_
          rintro e w3 ⟨rfl, hb3⟩
          have M3 : Hid (w3.heap[b]? = some (.cells m.cells.toArray 41 (0, 0))) := hid (by rw [hb3.block _ (Array.getElem?_eq_some_iff.1 M2.out).1]; exact M2.out)
          have B3 := hid (b2 B2.out hb3)
          clear hb3
          cases bo
          · have F : Hid (r = 115) := hid (by rw [← hr.out]; rfl)
            clear hr
            go_wp2
            go_ret
            exact ⟨by rw [F.out]; rfl, B3.out⟩
          go_wp2_with (refine wpList_load_row rfl 41 _ rfl b rfl 41 m.cells.toArray (0, 0) _ M3.out Tryd.underlying41 rfl I34.out ?_)
          refine (H40.out _ B3.out).mono ?_
          rintro e w4 ⟨rfl, hb4⟩
          have B4 := hid (b2 B3.out hb4)
          clear hb4
          cases ex
          · have F : Hid (r = 0) := hid (by rw [← hr.out]; rfl)
            clear hr
            go_wp2
            go_ret
            exact ⟨by rw [F.out]; rfl, B4.out⟩
          · have F : Hid (r = 116) := hid (by rw [← hr.out]; rfl)
            clear hr
            go_wp2
            go_ret
            exact ⟨by rw [F.out]; rfl, B4.out⟩
        | false =>
          have hr : Hid ((if nu = false then 114 else if bo = false then 115 else if ex = true then 116 else 0) = r) := hid (by rw [← hr.out]; rfl)
          go_wp2_with (first | (go_at_call 39; refine (C35.out _).mono ?_; rintro e w' ⟨rfl, hw'⟩; subst w') | (go_at_call 40; refine (rwithin_b _ _ _).mono ?_; rintro e w' ⟨rfl, hw'⟩; subst w') | (go_at_call 41; refine (C12.out _).mono ?_; rintro e w' ⟨rfl, hw'⟩; subst w') | (go_at_call 42; refine (C13.out _).mono ?_; rintro e w' ⟨rfl, hw'⟩; subst w') | (go_at_call 43; refine (C37.out _).mono ?_; rintro e w' ⟨rfl, hw'⟩; subst w') | (refine wpList_load_row rfl 41 _ rfl b rfl 41 m.cells.toArray (0, 0) _ M0.out Tryd.underlying41 rfl I34.out ?_))
          refine (H38.out _ B0.out).mono ?_
          rintro e w2 ⟨rfl, hb2⟩
          have M2 : Hid (w2.heap[b]? = some (.cells m.cells.toArray 41 (0, 0))) := hid (by rw [hb2.block _ (Array.getElem?_eq_some_iff.1 M0.out).1]; exact M0.out)
          have B2 := hid (b2 B0.out hb2)
          clear hb2 q0 q1 q2 q3
          cases nu
          · have F : Hid (r = 114) := hid (by rw [← hr.out]; rfl)
            clear hr
            go_wp2
            go_ret
            exact ⟨by rw [F.out]; rfl, B2.out⟩
          go_wp2_with (refine wpList_load_row rfl 41 _ rfl b rfl 41 m.cells.toArray (0, 0) _ M2.out Tryd.underlying41 rfl I34.out ?_)
          refine (H39.out (by trivial) _ B2.out).mono ?_
          rintro e w3 ⟨rfl, hb3⟩
          have M3 : Hid (w3.heap[b]? = some (.cells m.cells.toArray 41 (0, 0))) := hid (by rw [hb3.block _ (Array.getElem?_eq_some_iff.1 M2.out).1]; exact M2.out)
          have B3 := hid (b2 B2.out hb3)
          clear hb3
          cases bo
          · have F : Hid (r = 115) := hid (by rw [← hr.out]; rfl)
            clear hr
            go_wp2
            go_ret
            exact ⟨by rw [F.out]; rfl, B3.out⟩
          go_wp2_with (refine wpList_load_row rfl 41 _ rfl b rfl 41 m.cells.toArray (0, 0) _ M3.out Tryd.underlying41 rfl I34.out ?_)
          refine (H40.out _ B3.out).mono ?_
          rintro e w4 ⟨rfl, hb4⟩
          have B4 := hid (b2 B3.out hb4)
          clear hb4
          cases ex
          · have F : Hid (r = 0) := hid (by rw [← hr.out]; rfl)
            clear hr
            go_wp2
            go_ret
            exact ⟨by rw [F.out]; rfl, B4.out⟩
          · have F : Hid (r = 116) := hid (by rw [← hr.out]; rfl)
            clear hr
            go_wp2
            go_ret
            exact ⟨by rw [F.out]; rfl, B4.out⟩
end Go.Proofs.YteloaggebkbeeaaDoor
