import Derived.Test.YthjoppgomopkfaaGath2
import Derived.Test.YthjoppgomopkfaaSame
import Derived.Test.YthjoppgomopkfaaRefA
namespace Go.Proofs.Ythjoppgomopkfaa
open Go.RowKit
set_option linter.unusedVariables false

set_option maxHeartbeats 1600000 in
set_option maxRecDepth 1000000 in
theorem alike_any {g h b n p : Nat} {v : Value} {L ps : List Ent} {cs : List Comp} {w : World} (hA : All (logP g h b (b + L.length) n ps ++ (refP p n b v L ++ cs)) w) (hk : LogOk b n L ps) : Calls Try.prog 15 #[.pointer (some ⟨g, 0, none⟩), .pointer (some ⟨p, 0, none⟩)] w fun e w' => e = .returned (.bool true) ∧ All (logP g h b (b + L.length) n ps ++ (refP p n b v L ++ cs)) w' := by
  have hfew := hk.few
  have hle := hk.le
  have htop := hk.top
  have c1 := hA.tail.tail.ref.c1
  have HG := hid (gath_all (lim := -1) hA hk (by decide))
  obtain ⟨ao, c, rfl, hc⟩ := owns7_form hA.tail.tail.refRow
  clear hA
  go_enter Try.func15, Try.ntmps15
  go_wp2_with fail
  refine HG.out.mono ?_
  rintro e w1 ⟨v1, rfl, A1⟩
  rw [show outL (-1) L = L from by unfold outL; rw [if_pos (by decide)]] at A1
  have A1 := hid A1
  have hS := hid (EntsW.of_owns (A1.out.1.2.1))
  have hT := hid (EntsW.of_owns (A1.out.tail.tail.tail.refRow))
  obtain ⟨a1, k1, rfl, _⟩ := owns7_form A1.out.1.2.1
  have d1 := A1.out.tail.tail.tail.ref.c1
  have d2 := A1.out.tail.tail.tail.ref.c2
  have lp1 := World.block_lt_of_cell? _ _ d1
  have F29 := hid (fun W (hb : Below w1.heap.size w1 W) => same_eq (hS.out.later hb) (hT.out.later hb) (by omega))
  have F10 := hid (fun W (hb : Below w1.heap.size w1 W) => base_any (A1.out.tail.head.later hb))
  have F11 := hid (fun W (hb : Below w1.heap.size w1 W) => op_any (A1.out.tail.head.later hb))
  have F12 := hid (fun W (hb : Below w1.heap.size w1 W) => rOp_any (A1.out.tail.tail.tail.ref.later hb) htop)
  have F13 := hid (fun W (hb : Below w1.heap.size w1 W) => Room_any (A1.out.tail.head.later hb) (by omega) htop hle (by omega))
  have F14 := hid (fun W (hb : Below w1.heap.size w1 W) => rRoom_any (A1.out.tail.tail.tail.ref.later hb) hfew hle)
  have hr : b + L.length - b = L.length := by omega
  rw [hr] at F13
  generalize hq : b + L.length = q at *
  generalize hq2 : n - L.length = r at *
  clear HG hS hT hr c1 hc hfew hle htop hk
  go_upto_region 2 with fail
  go_region_held3 (fun W => W.cell? ⟨p, 1, none⟩ = some (.int .i64 (b : Int)) ∧ W.cell? ⟨p, 2, none⟩ = some (.slice ao L.length c))
    (first | exact ⟨d1, d2⟩ | exact e2.out | exact e3.out | exact e4.out | exact e5.out | go_keep)
    (first
      | (go_at_call 29; refine (F29.out _ (bd w1)).mono ?_; rintro e w2 ⟨rfl, q2, hw2⟩; have b2 := hid (show Below w1.heap.size w1 w2 from by rw [hw2]; exact below2 (bd w1) (bdN _ q2)); clear hw2; have e2 := hid (show w2.cell? ⟨p, 1, none⟩ = some (.int .i64 (b : Int)) ∧ w2.cell? ⟨p, 2, none⟩ = some (.slice ao L.length c) from ⟨cell_under b2.out lp1 d1, cell_under b2.out lp1 d2⟩))
      | (go_at_call 10; refine (F10.out _ b2.out).mono ?_; rintro e w3 ⟨rfl, rfl⟩)
      | (go_at_call 11; refine (F11.out _ b2.out).mono ?_; rintro e w3 ⟨rfl, rfl⟩)
      | (go_at_call 12; refine (F12.out _ b2.out).mono ?_; rintro e w4 ⟨rfl, hb4⟩; have b4 := hid (below2 b2.out hb4); have e3 := hid (show w4.cell? ⟨p, 1, none⟩ = some (.int .i64 (b : Int)) ∧ w4.cell? ⟨p, 2, none⟩ = some (.slice ao L.length c) from ⟨cell_under b4.out lp1 d1, cell_under b4.out lp1 d2⟩))
      | (go_at_call 13; refine (F13.out _ b4.out).mono ?_; rintro e w5 ⟨rfl, hb5⟩; have b5 := hid (below2 b4.out hb5); have e4 := hid (show w5.cell? ⟨p, 1, none⟩ = some (.int .i64 (b : Int)) ∧ w5.cell? ⟨p, 2, none⟩ = some (.slice ao L.length c) from ⟨cell_under b5.out lp1 d1, cell_under b5.out lp1 d2⟩))
      | (go_at_call 14; refine (F14.out _ b5.out).mono ?_; rintro e w6 ⟨rfl, hb6⟩; have b6 := hid (below2 b5.out hb6); have e5 := hid (show w6.cell? ⟨p, 1, none⟩ = some (.int .i64 (b : Int)) ∧ w6.cell? ⟨p, 2, none⟩ = some (.slice ao L.length c) from ⟨cell_under b6.out lp1 d1, cell_under b6.out lp1 d2⟩)))
  clear F29 F10 F11 F12 F13 F14 e2 e3 e4 e5 d1 d2
  go_wp2
  go_ret
  exact ⟨rfl, by subst hq; exact A1.out.tail.later b6.out⟩
end Go.Proofs.Ythjoppgomopkfaa
