import Derived.Test.YthoppemjfdnibaaGreatDoorMail26
namespace Go.Proofs.YthoppemjfdnibaaGreatDoor
open Go.RowKit
set_option linter.unusedVariables false

/-- Are the numbers in their bounds? -/
def Ms.numB (m : Ms) (k : Nat) : Bool := (!inK k 75 || inR m.n (lstK (k : Int)) 1099511627776) && ((!inK k 67 || inR m.c 0 1099511627776) && ((!inK k 78 || inR m.o 0 m.v) && ((!inK k 76 || inR m.l 1 1099511627776) && (!inK k 81 || inR m.q 1 1099511627776))))
set_option maxRecDepth 1000000 in
theorem num_k1 {w : World} (m : Ms) (hk : m.k = 1) : Calls Tryz.prog 38 #[m.V] w fun e w' => e = .returned (.bool (m.numB 1)) ∧ Below w.heap.size w w' := by
  obtain ⟨z, hz⟩ : ∃ z, Hid (m.numB 1 = z) := ⟨_, hid rfl⟩
  rw [hz.out]
  have E : Hid (z = (inR m.q 1 1099511627776)) := hid (by
    rw [← hz.out]
    show ((!inK 1 75 || inR m.n (lstK ((1 : Nat) : Int)) 1099511627776) && ((!inK 1 67 || inR m.c 0 1099511627776) && ((!inK 1 78 || inR m.o 0 m.v) && ((!inK 1 76 || inR m.l 1 1099511627776) && (!inK 1 81 || inR m.q 1 1099511627776))))) = _
    rw [show inK 1 75 = false from rfl, show inK 1 67 = false from rfl, show inK 1 78 = false from rfl, show inK 1 76 = false from rfl, show inK 1 81 = true from rfl, show lstK ((1 : Nat) : Int) = 0 from rfl]
    simp)
  have BA := hid (ba w (.cells m.cells.toArray 34))
  have M0 := hid (MsAt.new w m)
  have HK := hid hk
  clear hk
  have H46 : Hid (∀ W : World, Calls Tryz.prog 46 #[.int .i64 1] W fun e w' => e = .returned (.bool false) ∧ w' = W) := hid (fun W => has46 (k := 1) ⟨by omega, by omega⟩)
  have H47 : Hid (∀ W : World, Calls Tryz.prog 47 #[.int .i64 1] W fun e w' => e = .returned (.bool false) ∧ w' = W) := hid (fun W => has47 (k := 1) ⟨by omega, by omega⟩)
  have H48 : Hid (∀ W : World, Calls Tryz.prog 48 #[.int .i64 1] W fun e w' => e = .returned (.bool false) ∧ w' = W) := hid (fun W => has48 (k := 1) ⟨by omega, by omega⟩)
  have H49 : Hid (∀ W : World, Calls Tryz.prog 49 #[.int .i64 1] W fun e w' => e = .returned (.bool false) ∧ w' = W) := hid (fun W => has49 (k := 1) ⟨by omega, by omega⟩)
  have H50 : Hid (∀ W : World, Calls Tryz.prog 50 #[.int .i64 1] W fun e w' => e = .returned (.bool true) ∧ w' = W) := hid (fun W => has50 (k := 1) ⟨by omega, by omega⟩)
  go_enter Tryz.func38, Tryz.ntmps38
  go_upto_region 1 with fail
  obtain ⟨b, hbb⟩ : ∃ b, Hid (b = w.heap.size) := ⟨_, hid rfl⟩
  rw [← hbb.out] at M0 ⊢
  change Code.wp _ _ _ _ (w.alloc (.cells m.cells.toArray 34))
  generalize w.alloc (.cells m.cells.toArray 34) = w1 at BA M0 ⊢
  have q0 : w1.cell? ⟨b, 0, none⟩ = some (.int .i64 1) := by rw [← HK.out]; exact M0.out 0 _ rfl
  have q3 : w1.cell? ⟨b, 3, none⟩ = some (.int .i64 m.v) := M0.out 3 _ rfl
  have q4 : w1.cell? ⟨b, 4, none⟩ = some (.int .i64 m.n) := M0.out 4 _ rfl
  have q5 : w1.cell? ⟨b, 5, none⟩ = some (.int .i64 m.c) := M0.out 5 _ rfl
  have q6 : w1.cell? ⟨b, 6, none⟩ = some (.int .i64 m.o) := M0.out 6 _ rfl
  have q7 : w1.cell? ⟨b, 7, none⟩ = some (.int .i64 m.l) := M0.out 7 _ rfl
  have q8 : w1.cell? ⟨b, 8, none⟩ = some (.int .i64 m.q) := M0.out 8 _ rfl
  clear HK hz M0
  cases e0 : inR m.q 1 1099511627776 with
  | false =>
    have F : Hid (z = false) := hid (by rw [E.out, e0] <;> rfl)
    clear E
    go_wp2_with (first | (go_at_call 46; refine (H46.out _).mono ?_; rintro e w' ⟨rfl, rfl⟩) | (go_at_call 47; refine (H47.out _).mono ?_; rintro e w' ⟨rfl, rfl⟩) | (go_at_call 48; refine (H48.out _).mono ?_; rintro e w' ⟨rfl, rfl⟩) | (go_at_call 49; refine (H49.out _).mono ?_; rintro e w' ⟨rfl, rfl⟩) | (go_at_call 50; refine (H50.out _).mono ?_; rintro e w' ⟨rfl, rfl⟩) | (go_at_call 36; refine (rwithin_b _ _ _).mono ?_; rintro e w' ⟨rfl, rfl⟩))
    go_ret
    exact ⟨by rw [F.out]; rfl, BA.out⟩
  | true =>
  have F : Hid (z = true) := hid (by rw [E.out, e0] <;> rfl)
  clear E
  go_wp2_with (first | (go_at_call 46; refine (H46.out _).mono ?_; rintro e w' ⟨rfl, rfl⟩) | (go_at_call 47; refine (H47.out _).mono ?_; rintro e w' ⟨rfl, rfl⟩) | (go_at_call 48; refine (H48.out _).mono ?_; rintro e w' ⟨rfl, rfl⟩) | (go_at_call 49; refine (H49.out _).mono ?_; rintro e w' ⟨rfl, rfl⟩) | (go_at_call 50; refine (H50.out _).mono ?_; rintro e w' ⟨rfl, rfl⟩) | (go_at_call 36; refine (rwithin_b _ _ _).mono ?_; rintro e w' ⟨rfl, rfl⟩))
  go_ret
  exact ⟨by rw [F.out]; rfl, BA.out⟩
set_option maxRecDepth 1000000 in
theorem num_k2 {w : World} (m : Ms) (hk : m.k = 2) : Calls Tryz.prog 38 #[m.V] w fun e w' => e = .returned (.bool (m.numB 2)) ∧ Below w.heap.size w w' := by
  obtain ⟨z, hz⟩ : ∃ z, Hid (m.numB 2 = z) := ⟨_, hid rfl⟩
  rw [hz.out]
  have E : Hid (z = (inR m.n 0 1099511627776 && (inR m.q 1 1099511627776))) := hid (by
    rw [← hz.out]
    show ((!inK 2 75 || inR m.n (lstK ((2 : Nat) : Int)) 1099511627776) && ((!inK 2 67 || inR m.c 0 1099511627776) && ((!inK 2 78 || inR m.o 0 m.v) && ((!inK 2 76 || inR m.l 1 1099511627776) && (!inK 2 81 || inR m.q 1 1099511627776))))) = _
    rw [show inK 2 75 = true from rfl, show inK 2 67 = false from rfl, show inK 2 78 = false from rfl, show inK 2 76 = false from rfl, show inK 2 81 = true from rfl, show lstK ((2 : Nat) : Int) = 0 from rfl]
    simp)
  have BA := hid (ba w (.cells m.cells.toArray 34))
  have M0 := hid (MsAt.new w m)
  have HK := hid hk
  clear hk
  have H46 : Hid (∀ W : World, Calls Tryz.prog 46 #[.int .i64 2] W fun e w' => e = .returned (.bool true) ∧ w' = W) := hid (fun W => has46 (k := 2) ⟨by omega, by omega⟩)
  have H47 : Hid (∀ W : World, Calls Tryz.prog 47 #[.int .i64 2] W fun e w' => e = .returned (.bool false) ∧ w' = W) := hid (fun W => has47 (k := 2) ⟨by omega, by omega⟩)
  have H48 : Hid (∀ W : World, Calls Tryz.prog 48 #[.int .i64 2] W fun e w' => e = .returned (.bool false) ∧ w' = W) := hid (fun W => has48 (k := 2) ⟨by omega, by omega⟩)
  have H49 : Hid (∀ W : World, Calls Tryz.prog 49 #[.int .i64 2] W fun e w' => e = .returned (.bool false) ∧ w' = W) := hid (fun W => has49 (k := 2) ⟨by omega, by omega⟩)
  have H50 : Hid (∀ W : World, Calls Tryz.prog 50 #[.int .i64 2] W fun e w' => e = .returned (.bool true) ∧ w' = W) := hid (fun W => has50 (k := 2) ⟨by omega, by omega⟩)
  go_enter Tryz.func38, Tryz.ntmps38
  go_upto_region 1 with fail
  obtain ⟨b, hbb⟩ : ∃ b, Hid (b = w.heap.size) := ⟨_, hid rfl⟩
  rw [← hbb.out] at M0 ⊢
  change Code.wp _ _ _ _ (w.alloc (.cells m.cells.toArray 34))
  generalize w.alloc (.cells m.cells.toArray 34) = w1 at BA M0 ⊢
  have q0 : w1.cell? ⟨b, 0, none⟩ = some (.int .i64 2) := by rw [← HK.out]; exact M0.out 0 _ rfl
  have q3 : w1.cell? ⟨b, 3, none⟩ = some (.int .i64 m.v) := M0.out 3 _ rfl
  have q4 : w1.cell? ⟨b, 4, none⟩ = some (.int .i64 m.n) := M0.out 4 _ rfl
  have q5 : w1.cell? ⟨b, 5, none⟩ = some (.int .i64 m.c) := M0.out 5 _ rfl
  have q6 : w1.cell? ⟨b, 6, none⟩ = some (.int .i64 m.o) := M0.out 6 _ rfl
  have q7 : w1.cell? ⟨b, 7, none⟩ = some (.int .i64 m.l) := M0.out 7 _ rfl
  have q8 : w1.cell? ⟨b, 8, none⟩ = some (.int .i64 m.q) := M0.out 8 _ rfl
  clear HK hz M0
  cases e0 : inR m.n 0 1099511627776 with
  | false =>
    have F : Hid (z = false) := hid (by rw [E.out, e0] <;> rfl)
    clear E
    go_wp2_with (first | (go_at_call 46; refine (H46.out _).mono ?_; rintro e w' ⟨rfl, rfl⟩) | (go_at_call 47; refine (H47.out _).mono ?_; rintro e w' ⟨rfl, rfl⟩) | (go_at_call 48; refine (H48.out _).mono ?_; rintro e w' ⟨rfl, rfl⟩) | (go_at_call 49; refine (H49.out _).mono ?_; rintro e w' ⟨rfl, rfl⟩) | (go_at_call 50; refine (H50.out _).mono ?_; rintro e w' ⟨rfl, rfl⟩) | (go_at_call 36; refine (rwithin_b _ _ _).mono ?_; rintro e w' ⟨rfl, rfl⟩))
    go_ret
    exact ⟨by rw [F.out]; rfl, BA.out⟩
  | true =>
  cases e1 : inR m.q 1 1099511627776 with
  | false =>
    have F : Hid (z = false) := hid (by rw [E.out, e0, e1] <;> rfl)
    clear E
    go_wp2_with (first | (go_at_call 46; refine (H46.out _).mono ?_; rintro e w' ⟨rfl, rfl⟩) | (go_at_call 47; refine (H47.out _).mono ?_; rintro e w' ⟨rfl, rfl⟩) | (go_at_call 48; refine (H48.out _).mono ?_; rintro e w' ⟨rfl, rfl⟩) | (go_at_call 49; refine (H49.out _).mono ?_; rintro e w' ⟨rfl, rfl⟩) | (go_at_call 50; refine (H50.out _).mono ?_; rintro e w' ⟨rfl, rfl⟩) | (go_at_call 36; refine (rwithin_b _ _ _).mono ?_; rintro e w' ⟨rfl, rfl⟩))
    go_ret
    exact ⟨by rw [F.out]; rfl, BA.out⟩
  | true =>
  have F : Hid (z = true) := hid (by rw [E.out, e0, e1] <;> rfl)
  clear E
  go_wp2_with (first | (go_at_call 46; refine (H46.out _).mono ?_; rintro e w' ⟨rfl, rfl⟩) | (go_at_call 47; refine (H47.out _).mono ?_; rintro e w' ⟨rfl, rfl⟩) | (go_at_call 48; refine (H48.out _).mono ?_; rintro e w' ⟨rfl, rfl⟩) | (go_at_call 49; refine (H49.out _).mono ?_; rintro e w' ⟨rfl, rfl⟩) | (go_at_call 50; refine (H50.out _).mono ?_; rintro e w' ⟨rfl, rfl⟩) | (go_at_call 36; refine (rwithin_b _ _ _).mono ?_; rintro e w' ⟨rfl, rfl⟩))
  go_ret
  exact ⟨by rw [F.out]; rfl, BA.out⟩
set_option maxRecDepth 1000000 in
theorem num_k3 {w : World} (m : Ms) (hk : m.k = 3) : Calls Tryz.prog 38 #[m.V] w fun e w' => e = .returned (.bool (m.numB 3)) ∧ Below w.heap.size w w' := by
  obtain ⟨z, hz⟩ : ∃ z, Hid (m.numB 3 = z) := ⟨_, hid rfl⟩
  rw [hz.out]
  have E : Hid (z = (inR m.q 1 1099511627776)) := hid (by
    rw [← hz.out]
    show ((!inK 3 75 || inR m.n (lstK ((3 : Nat) : Int)) 1099511627776) && ((!inK 3 67 || inR m.c 0 1099511627776) && ((!inK 3 78 || inR m.o 0 m.v) && ((!inK 3 76 || inR m.l 1 1099511627776) && (!inK 3 81 || inR m.q 1 1099511627776))))) = _
    rw [show inK 3 75 = false from rfl, show inK 3 67 = false from rfl, show inK 3 78 = false from rfl, show inK 3 76 = false from rfl, show inK 3 81 = true from rfl, show lstK ((3 : Nat) : Int) = 0 from rfl]
    simp)
  have BA := hid (ba w (.cells m.cells.toArray 34))
  have M0 := hid (MsAt.new w m)
  have HK := hid hk
  clear hk
  have H46 : Hid (∀ W : World, Calls Tryz.prog 46 #[.int .i64 3] W fun e w' => e = .returned (.bool false) ∧ w' = W) := hid (fun W => has46 (k := 3) ⟨by omega, by omega⟩)
  have H47 : Hid (∀ W : World, Calls Tryz.prog 47 #[.int .i64 3] W fun e w' => e = .returned (.bool false) ∧ w' = W) := hid (fun W => has47 (k := 3) ⟨by omega, by omega⟩)
  have H48 : Hid (∀ W : World, Calls Tryz.prog 48 #[.int .i64 3] W fun e w' => e = .returned (.bool false) ∧ w' = W) := hid (fun W => has48 (k := 3) ⟨by omega, by omega⟩)
  have H49 : Hid (∀ W : World, Calls Tryz.prog 49 #[.int .i64 3] W fun e w' => e = .returned (.bool false) ∧ w' = W) := hid (fun W => has49 (k := 3) ⟨by omega, by omega⟩)
  have H50 : Hid (∀ W : World, Calls Tryz.prog 50 #[.int .i64 3] W fun e w' => e = .returned (.bool true) ∧ w' = W) := hid (fun W => has50 (k := 3) ⟨by omega, by omega⟩)
  go_enter Tryz.func38, Tryz.ntmps38
  go_upto_region 1 with fail
  obtain ⟨b, hbb⟩ : ∃ b, Hid (b = w.heap.size) := ⟨_, hid rfl⟩
  rw [← hbb.out] at M0 ⊢
  change Code.wp _ _ _ _ (w.alloc (.cells m.cells.toArray 34))
  generalize w.alloc (.cells m.cells.toArray 34) = w1 at BA M0 ⊢
  have q0 : w1.cell? ⟨b, 0, none⟩ = some (.int .i64 3) := by rw [← HK.out]; exact M0.out 0 _ rfl
  have q3 : w1.cell? ⟨b, 3, none⟩ = some (.int .i64 m.v) := M0.out 3 _ rfl
  have q4 : w1.cell? ⟨b, 4, none⟩ = some (.int .i64 m.n) := M0.out 4 _ rfl
  have q5 : w1.cell? ⟨b, 5, none⟩ = some (.int .i64 m.c) := M0.out 5 _ rfl
  have q6 : w1.cell? ⟨b, 6, none⟩ = some (.int .i64 m.o) := M0.out 6 _ rfl
  have q7 : w1.cell? ⟨b, 7, none⟩ = some (.int .i64 m.l) := M0.out 7 _ rfl
  have q8 : w1.cell? ⟨b, 8, none⟩ = some (.int .i64 m.q) := M0.out 8 _ rfl
  clear HK hz M0
  cases e0 : inR m.q 1 1099511627776 with
  | false =>
    have F : Hid (z = false) := hid (by rw [E.out, e0] <;> rfl)
    clear E
    go_wp2_with (first | (go_at_call 46; refine (H46.out _).mono ?_; rintro e w' ⟨rfl, rfl⟩) | (go_at_call 47; refine (H47.out _).mono ?_; rintro e w' ⟨rfl, rfl⟩) | (go_at_call 48; refine (H48.out _).mono ?_; rintro e w' ⟨rfl, rfl⟩) | (go_at_call 49; refine (H49.out _).mono ?_; rintro e w' ⟨rfl, rfl⟩) | (go_at_call 50; refine (H50.out _).mono ?_; rintro e w' ⟨rfl, rfl⟩) | (go_at_call 36; refine (rwithin_b _ _ _).mono ?_; rintro e w' ⟨rfl, rfl⟩))
    go_ret
    exact ⟨by rw [F.out]; rfl, BA.out⟩
  | true =>
  have F : Hid (z = true) := hid (by rw [E.out, e0] <;> rfl)
  clear E
  go_wp2_with (first | (go_at_call 46; refine (H46.out _).mono ?_; rintro e w' ⟨rfl, rfl⟩) | (go_at_call 47; refine (H47.out _).mono ?_; rintro e w' ⟨rfl, rfl⟩) | (go_at_call 48; refine (H48.out _).mono ?_; rintro e w' ⟨rfl, rfl⟩) | (go_at_call 49; refine (H49.out _).mono ?_; rintro e w' ⟨rfl, rfl⟩) | (go_at_call 50; refine (H50.out _).mono ?_; rintro e w' ⟨rfl, rfl⟩) | (go_at_call 36; refine (rwithin_b _ _ _).mono ?_; rintro e w' ⟨rfl, rfl⟩))
  go_ret
  exact ⟨by rw [F.out]; rfl, BA.out⟩
set_option maxRecDepth 1000000 in
theorem num_k4 {w : World} (m : Ms) (hk : m.k = 4) : Calls Tryz.prog 38 #[m.V] w fun e w' => e = .returned (.bool (m.numB 4)) ∧ Below w.heap.size w w' := by
  obtain ⟨z, hz⟩ : ∃ z, Hid (m.numB 4 = z) := ⟨_, hid rfl⟩
  rw [hz.out]
  have E : Hid (z = (inR m.n 1 1099511627776 && (inR m.c 0 1099511627776))) := hid (by
    rw [← hz.out]
    show ((!inK 4 75 || inR m.n (lstK ((4 : Nat) : Int)) 1099511627776) && ((!inK 4 67 || inR m.c 0 1099511627776) && ((!inK 4 78 || inR m.o 0 m.v) && ((!inK 4 76 || inR m.l 1 1099511627776) && (!inK 4 81 || inR m.q 1 1099511627776))))) = _
    rw [show inK 4 75 = true from rfl, show inK 4 67 = true from rfl, show inK 4 78 = false from rfl, show inK 4 76 = false from rfl, show inK 4 81 = false from rfl, show lstK ((4 : Nat) : Int) = 1 from rfl]
    simp)
  have BA := hid (ba w (.cells m.cells.toArray 34))
  have M0 := hid (MsAt.new w m)
  have HK := hid hk
  clear hk
  have H46 : Hid (∀ W : World, Calls Tryz.prog 46 #[.int .i64 4] W fun e w' => e = .returned (.bool true) ∧ w' = W) := hid (fun W => has46 (k := 4) ⟨by omega, by omega⟩)
  have H47 : Hid (∀ W : World, Calls Tryz.prog 47 #[.int .i64 4] W fun e w' => e = .returned (.bool true) ∧ w' = W) := hid (fun W => has47 (k := 4) ⟨by omega, by omega⟩)
  have H48 : Hid (∀ W : World, Calls Tryz.prog 48 #[.int .i64 4] W fun e w' => e = .returned (.bool false) ∧ w' = W) := hid (fun W => has48 (k := 4) ⟨by omega, by omega⟩)
  have H49 : Hid (∀ W : World, Calls Tryz.prog 49 #[.int .i64 4] W fun e w' => e = .returned (.bool false) ∧ w' = W) := hid (fun W => has49 (k := 4) ⟨by omega, by omega⟩)
  have H50 : Hid (∀ W : World, Calls Tryz.prog 50 #[.int .i64 4] W fun e w' => e = .returned (.bool false) ∧ w' = W) := hid (fun W => has50 (k := 4) ⟨by omega, by omega⟩)
  go_enter Tryz.func38, Tryz.ntmps38
  go_upto_region 1 with fail
  obtain ⟨b, hbb⟩ : ∃ b, Hid (b = w.heap.size) := ⟨_, hid rfl⟩
  rw [← hbb.out] at M0 ⊢
  change Code.wp _ _ _ _ (w.alloc (.cells m.cells.toArray 34))
  generalize w.alloc (.cells m.cells.toArray 34) = w1 at BA M0 ⊢
  have q0 : w1.cell? ⟨b, 0, none⟩ = some (.int .i64 4) := by rw [← HK.out]; exact M0.out 0 _ rfl
  have q3 : w1.cell? ⟨b, 3, none⟩ = some (.int .i64 m.v) := M0.out 3 _ rfl
  have q4 : w1.cell? ⟨b, 4, none⟩ = some (.int .i64 m.n) := M0.out 4 _ rfl
  have q5 : w1.cell? ⟨b, 5, none⟩ = some (.int .i64 m.c) := M0.out 5 _ rfl
  have q6 : w1.cell? ⟨b, 6, none⟩ = some (.int .i64 m.o) := M0.out 6 _ rfl
  have q7 : w1.cell? ⟨b, 7, none⟩ = some (.int .i64 m.l) := M0.out 7 _ rfl
  have q8 : w1.cell? ⟨b, 8, none⟩ = some (.int .i64 m.q) := M0.out 8 _ rfl
  clear HK hz M0
  cases e0 : inR m.n 1 1099511627776 with
  | false =>
    have F : Hid (z = false) := hid (by rw [E.out, e0] <;> rfl)
    clear E
    go_wp2_with (first | (go_at_call 46; refine (H46.out _).mono ?_; rintro e w' ⟨rfl, rfl⟩) | (go_at_call 47; refine (H47.out _).mono ?_; rintro e w' ⟨rfl, rfl⟩) | (go_at_call 48; refine (H48.out _).mono ?_; rintro e w' ⟨rfl, rfl⟩) | (go_at_call 49; refine (H49.out _).mono ?_; rintro e w' ⟨rfl, rfl⟩) | (go_at_call 50; refine (H50.out _).mono ?_; rintro e w' ⟨rfl, rfl⟩) | (go_at_call 36; refine (rwithin_b _ _ _).mono ?_; rintro e w' ⟨rfl, rfl⟩))
    go_ret
    exact ⟨by rw [F.out]; rfl, BA.out⟩
  | true =>
  cases e1 : inR m.c 0 1099511627776 with
  | false =>
    have F : Hid (z = false) := hid (by rw [E.out, e0, e1] <;> rfl)
    clear E
    go_wp2_with (first | (go_at_call 46; refine (H46.out _).mono ?_; rintro e w' ⟨rfl, rfl⟩) | (go_at_call 47; refine (H47.out _).mono ?_; rintro e w' ⟨rfl, rfl⟩) | (go_at_call 48; refine (H48.out _).mono ?_; rintro e w' ⟨rfl, rfl⟩) | (go_at_call 49; refine (H49.out _).mono ?_; rintro e w' ⟨rfl, rfl⟩) | (go_at_call 50; refine (H50.out _).mono ?_; rintro e w' ⟨rfl, rfl⟩) | (go_at_call 36; refine (rwithin_b _ _ _).mono ?_; rintro e w' ⟨rfl, rfl⟩))
    go_ret
    exact ⟨by rw [F.out]; rfl, BA.out⟩
  | true =>
  have F : Hid (z = true) := hid (by rw [E.out, e0, e1] <;> rfl)
  clear E
  go_wp2_with (first | (go_at_call 46; refine (H46.out _).mono ?_; rintro e w' ⟨rfl, rfl⟩) | (go_at_call 47; refine (H47.out _).mono ?_; rintro e w' ⟨rfl, rfl⟩) | (go_at_call 48; refine (H48.out _).mono ?_; rintro e w' ⟨rfl, rfl⟩) | (go_at_call 49; refine (H49.out _).mono ?_; rintro e w' ⟨rfl, rfl⟩) | (go_at_call 50; refine (H50.out _).mono ?_; rintro e w' ⟨rfl, rfl⟩) | (go_at_call 36; refine (rwithin_b _ _ _).mono ?_; rintro e w' ⟨rfl, rfl⟩))
  go_ret
  exact ⟨by rw [F.out]; rfl, BA.out⟩
set_option maxRecDepth 1000000 in
theorem num_k5 {w : World} (m : Ms) (hk : m.k = 5) : Calls Tryz.prog 38 #[m.V] w fun e w' => e = .returned (.bool (m.numB 5)) ∧ Below w.heap.size w w' := by
  obtain ⟨z, hz⟩ : ∃ z, Hid (m.numB 5 = z) := ⟨_, hid rfl⟩
  rw [hz.out]
  have E : Hid (z = (inR m.n 0 1099511627776)) := hid (by
    rw [← hz.out]
    show ((!inK 5 75 || inR m.n (lstK ((5 : Nat) : Int)) 1099511627776) && ((!inK 5 67 || inR m.c 0 1099511627776) && ((!inK 5 78 || inR m.o 0 m.v) && ((!inK 5 76 || inR m.l 1 1099511627776) && (!inK 5 81 || inR m.q 1 1099511627776))))) = _
    rw [show inK 5 75 = true from rfl, show inK 5 67 = false from rfl, show inK 5 78 = false from rfl, show inK 5 76 = false from rfl, show inK 5 81 = false from rfl, show lstK ((5 : Nat) : Int) = 0 from rfl]
    simp)
  have BA := hid (ba w (.cells m.cells.toArray 34))
  have M0 := hid (MsAt.new w m)
  have HK := hid hk
  clear hk
  have H46 : Hid (∀ W : World, Calls Tryz.prog 46 #[.int .i64 5] W fun e w' => e = .returned (.bool true) ∧ w' = W) := hid (fun W => has46 (k := 5) ⟨by omega, by omega⟩)
  have H47 : Hid (∀ W : World, Calls Tryz.prog 47 #[.int .i64 5] W fun e w' => e = .returned (.bool false) ∧ w' = W) := hid (fun W => has47 (k := 5) ⟨by omega, by omega⟩)
  have H48 : Hid (∀ W : World, Calls Tryz.prog 48 #[.int .i64 5] W fun e w' => e = .returned (.bool false) ∧ w' = W) := hid (fun W => has48 (k := 5) ⟨by omega, by omega⟩)
  have H49 : Hid (∀ W : World, Calls Tryz.prog 49 #[.int .i64 5] W fun e w' => e = .returned (.bool false) ∧ w' = W) := hid (fun W => has49 (k := 5) ⟨by omega, by omega⟩)
  have H50 : Hid (∀ W : World, Calls Tryz.prog 50 #[.int .i64 5] W fun e w' => e = .returned (.bool false) ∧ w' = W) := hid (fun W => has50 (k := 5) ⟨by omega, by omega⟩)
  go_enter Tryz.func38, Tryz.ntmps38
  go_upto_region 1 with fail
  obtain ⟨b, hbb⟩ : ∃ b, Hid (b = w.heap.size) := ⟨_, hid rfl⟩
  rw [← hbb.out] at M0 ⊢
  change Code.wp _ _ _ _ (w.alloc (.cells m.cells.toArray 34))
  generalize w.alloc (.cells m.cells.toArray 34) = w1 at BA M0 ⊢
  have q0 : w1.cell? ⟨b, 0, none⟩ = some (.int .i64 5) := by rw [← HK.out]; exact M0.out 0 _ rfl
  have q3 : w1.cell? ⟨b, 3, none⟩ = some (.int .i64 m.v) := M0.out 3 _ rfl
  have q4 : w1.cell? ⟨b, 4, none⟩ = some (.int .i64 m.n) := M0.out 4 _ rfl
  have q5 : w1.cell? ⟨b, 5, none⟩ = some (.int .i64 m.c) := M0.out 5 _ rfl
  have q6 : w1.cell? ⟨b, 6, none⟩ = some (.int .i64 m.o) := M0.out 6 _ rfl
  have q7 : w1.cell? ⟨b, 7, none⟩ = some (.int .i64 m.l) := M0.out 7 _ rfl
  have q8 : w1.cell? ⟨b, 8, none⟩ = some (.int .i64 m.q) := M0.out 8 _ rfl
  clear HK hz M0
  cases e0 : inR m.n 0 1099511627776 with
  | false =>
    have F : Hid (z = false) := hid (by rw [E.out, e0] <;> rfl)
    clear E
    go_wp2_with (first | (go_at_call 46; refine (H46.out _).mono ?_; rintro e w' ⟨rfl, rfl⟩) | (go_at_call 47; refine (H47.out _).mono ?_; rintro e w' ⟨rfl, rfl⟩) | (go_at_call 48; refine (H48.out _).mono ?_; rintro e w' ⟨rfl, rfl⟩) | (go_at_call 49; refine (H49.out _).mono ?_; rintro e w' ⟨rfl, rfl⟩) | (go_at_call 50; refine (H50.out _).mono ?_; rintro e w' ⟨rfl, rfl⟩) | (go_at_call 36; refine (rwithin_b _ _ _).mono ?_; rintro e w' ⟨rfl, rfl⟩))
    go_ret
    exact ⟨by rw [F.out]; rfl, BA.out⟩
  | true =>
  have F : Hid (z = true) := hid (by rw [E.out, e0] <;> rfl)
  clear E
  go_wp2_with (first | (go_at_call 46; refine (H46.out _).mono ?_; rintro e w' ⟨rfl, rfl⟩) | (go_at_call 47; refine (H47.out _).mono ?_; rintro e w' ⟨rfl, rfl⟩) | (go_at_call 48; refine (H48.out _).mono ?_; rintro e w' ⟨rfl, rfl⟩) | (go_at_call 49; refine (H49.out _).mono ?_; rintro e w' ⟨rfl, rfl⟩) | (go_at_call 50; refine (H50.out _).mono ?_; rintro e w' ⟨rfl, rfl⟩) | (go_at_call 36; refine (rwithin_b _ _ _).mono ?_; rintro e w' ⟨rfl, rfl⟩))
  go_ret
  exact ⟨by rw [F.out]; rfl, BA.out⟩
set_option maxRecDepth 1000000 in
theorem num_k6 {w : World} (m : Ms) (hk : m.k = 6) : Calls Tryz.prog 38 #[m.V] w fun e w' => e = .returned (.bool (m.numB 6)) ∧ Below w.heap.size w w' := by
  obtain ⟨z, hz⟩ : ∃ z, Hid (m.numB 6 = z) := ⟨_, hid rfl⟩
  rw [hz.out]
  have E : Hid (z = (inR m.n 0 1099511627776 && (inR m.c 0 1099511627776))) := hid (by
    rw [← hz.out]
    show ((!inK 6 75 || inR m.n (lstK ((6 : Nat) : Int)) 1099511627776) && ((!inK 6 67 || inR m.c 0 1099511627776) && ((!inK 6 78 || inR m.o 0 m.v) && ((!inK 6 76 || inR m.l 1 1099511627776) && (!inK 6 81 || inR m.q 1 1099511627776))))) = _
    rw [show inK 6 75 = true from rfl, show inK 6 67 = true from rfl, show inK 6 78 = false from rfl, show inK 6 76 = false from rfl, show inK 6 81 = false from rfl, show lstK ((6 : Nat) : Int) = 0 from rfl]
    simp)
  have BA := hid (ba w (.cells m.cells.toArray 34))
  have M0 := hid (MsAt.new w m)
  have HK := hid hk
  clear hk
  have H46 : Hid (∀ W : World, Calls Tryz.prog 46 #[.int .i64 6] W fun e w' => e = .returned (.bool true) ∧ w' = W) := hid (fun W => has46 (k := 6) ⟨by omega, by omega⟩)
  have H47 : Hid (∀ W : World, Calls Tryz.prog 47 #[.int .i64 6] W fun e w' => e = .returned (.bool true) ∧ w' = W) := hid (fun W => has47 (k := 6) ⟨by omega, by omega⟩)
  have H48 : Hid (∀ W : World, Calls Tryz.prog 48 #[.int .i64 6] W fun e w' => e = .returned (.bool false) ∧ w' = W) := hid (fun W => has48 (k := 6) ⟨by omega, by omega⟩)
  have H49 : Hid (∀ W : World, Calls Tryz.prog 49 #[.int .i64 6] W fun e w' => e = .returned (.bool false) ∧ w' = W) := hid (fun W => has49 (k := 6) ⟨by omega, by omega⟩)
  have H50 : Hid (∀ W : World, Calls Tryz.prog 50 #[.int .i64 6] W fun e w' => e = .returned (.bool false) ∧ w' = W) := hid (fun W => has50 (k := 6) ⟨by omega, by omega⟩)
  go_enter Tryz.func38, Tryz.ntmps38
  go_upto_region 1 with fail
  obtain ⟨b, hbb⟩ : ∃ b, Hid (b = w.heap.size) := ⟨_, hid rfl⟩
  rw [← hbb.out] at M0 ⊢
  change Code.wp _ _ _ _ (w.alloc (.cells m.cells.toArray 34))
  generalize w.alloc (.cells m.cells.toArray 34) = w1 at BA M0 ⊢
  have q0 : w1.cell? ⟨b, 0, none⟩ = some (.int .i64 6) := by rw [← HK.out]; exact M0.out 0 _ rfl
  have q3 : w1.cell? ⟨b, 3, none⟩ = some (.int .i64 m.v) := M0.out 3 _ rfl
  have q4 : w1.cell? ⟨b, 4, none⟩ = some (.int .i64 m.n) := M0.out 4 _ rfl
  have q5 : w1.cell? ⟨b, 5, none⟩ = some (.int .i64 m.c) := M0.out 5 _ rfl
  have q6 : w1.cell? ⟨b, 6, none⟩ = some (.int .i64 m.o) := M0.out 6 _ rfl
  have q7 : w1.cell? ⟨b, 7, none⟩ = some (.int .i64 m.l) := M0.out 7 _ rfl
  have q8 : w1.cell? ⟨b, 8, none⟩ = some (.int .i64 m.q) := M0.out 8 _ rfl
  clear HK hz M0
  cases e0 : inR m.n 0 1099511627776 with
  | false =>
    have F : Hid (z = false) := hid (by rw [E.out, e0] <;> rfl)
    clear E
    go_wp2_with (first | (go_at_call 46; refine (H46.out _).mono ?_; rintro e w' ⟨rfl, rfl⟩) | (go_at_call 47; refine (H47.out _).mono ?_; rintro e w' ⟨rfl, rfl⟩) | (go_at_call 48; refine (H48.out _).mono ?_; rintro e w' ⟨rfl, rfl⟩) | (go_at_call 49; refine (H49.out _).mono ?_; rintro e w' ⟨rfl, rfl⟩) | (go_at_call 50; refine (H50.out _).mono ?_; rintro e w' ⟨rfl, rfl⟩) | (go_at_call 36; refine (rwithin_b _ _ _).mono ?_; rintro e w' ⟨rfl, rfl⟩))
    go_ret
    exact ⟨by rw [F.out]; rfl, BA.out⟩
  | true =>
  cases e1 : inR m.c 0 1099511627776 with
  | false =>
    have F : Hid (z = false) := hid (by rw [E.out, e0, e1] <;> rfl)
    clear E
    go_wp2_with (first | (go_at_call 46; refine (H46.out _).mono ?_; rintro e w' ⟨rfl, rfl⟩) | (go_at_call 47; refine (H47.out _).mono ?_; rintro e w' ⟨rfl, rfl⟩) | (go_at_call 48; refine (H48.out _).mono ?_; rintro e w' ⟨rfl, rfl⟩) | (go_at_call 49; refine (H49.out _).mono ?_; rintro e w' ⟨rfl, rfl⟩) | (go_at_call 50; refine (H50.out _).mono ?_; rintro e w' ⟨rfl, rfl⟩) | (go_at_call 36; refine (rwithin_b _ _ _).mono ?_; rintro e w' ⟨rfl, rfl⟩))
    go_ret
    exact ⟨by rw [F.out]; rfl, BA.out⟩
  | true =>
  have F : Hid (z = true) := hid (by rw [E.out, e0, e1] <;> rfl)
  clear E
  go_wp2_with (first | (go_at_call 46; refine (H46.out _).mono ?_; rintro e w' ⟨rfl, rfl⟩) | (go_at_call 47; refine (H47.out _).mono ?_; rintro e w' ⟨rfl, rfl⟩) | (go_at_call 48; refine (H48.out _).mono ?_; rintro e w' ⟨rfl, rfl⟩) | (go_at_call 49; refine (H49.out _).mono ?_; rintro e w' ⟨rfl, rfl⟩) | (go_at_call 50; refine (H50.out _).mono ?_; rintro e w' ⟨rfl, rfl⟩) | (go_at_call 36; refine (rwithin_b _ _ _).mono ?_; rintro e w' ⟨rfl, rfl⟩))
  go_ret
  exact ⟨by rw [F.out]; rfl, BA.out⟩
set_option maxRecDepth 1000000 in
theorem num_k7 {w : World} (m : Ms) (hk : m.k = 7) : Calls Tryz.prog 38 #[m.V] w fun e w' => e = .returned (.bool (m.numB 7)) ∧ Below w.heap.size w w' := by
  obtain ⟨z, hz⟩ : ∃ z, Hid (m.numB 7 = z) := ⟨_, hid rfl⟩
  rw [hz.out]
  have E : Hid (z = (true)) := hid (by
    rw [← hz.out]
    show ((!inK 7 75 || inR m.n (lstK ((7 : Nat) : Int)) 1099511627776) && ((!inK 7 67 || inR m.c 0 1099511627776) && ((!inK 7 78 || inR m.o 0 m.v) && ((!inK 7 76 || inR m.l 1 1099511627776) && (!inK 7 81 || inR m.q 1 1099511627776))))) = _
    rw [show inK 7 75 = false from rfl, show inK 7 67 = false from rfl, show inK 7 78 = false from rfl, show inK 7 76 = false from rfl, show inK 7 81 = false from rfl, show lstK ((7 : Nat) : Int) = 0 from rfl]
    simp)
  have BA := hid (ba w (.cells m.cells.toArray 34))
  have M0 := hid (MsAt.new w m)
  have HK := hid hk
  clear hk
  have H46 : Hid (∀ W : World, Calls Tryz.prog 46 #[.int .i64 7] W fun e w' => e = .returned (.bool false) ∧ w' = W) := hid (fun W => has46 (k := 7) ⟨by omega, by omega⟩)
  have H47 : Hid (∀ W : World, Calls Tryz.prog 47 #[.int .i64 7] W fun e w' => e = .returned (.bool false) ∧ w' = W) := hid (fun W => has47 (k := 7) ⟨by omega, by omega⟩)
  have H48 : Hid (∀ W : World, Calls Tryz.prog 48 #[.int .i64 7] W fun e w' => e = .returned (.bool false) ∧ w' = W) := hid (fun W => has48 (k := 7) ⟨by omega, by omega⟩)
  have H49 : Hid (∀ W : World, Calls Tryz.prog 49 #[.int .i64 7] W fun e w' => e = .returned (.bool false) ∧ w' = W) := hid (fun W => has49 (k := 7) ⟨by omega, by omega⟩)
  have H50 : Hid (∀ W : World, Calls Tryz.prog 50 #[.int .i64 7] W fun e w' => e = .returned (.bool false) ∧ w' = W) := hid (fun W => has50 (k := 7) ⟨by omega, by omega⟩)
  go_enter Tryz.func38, Tryz.ntmps38
  go_upto_region 1 with fail
  obtain ⟨b, hbb⟩ : ∃ b, Hid (b = w.heap.size) := ⟨_, hid rfl⟩
  rw [← hbb.out] at M0 ⊢
  change Code.wp _ _ _ _ (w.alloc (.cells m.cells.toArray 34))
  generalize w.alloc (.cells m.cells.toArray 34) = w1 at BA M0 ⊢
  have q0 : w1.cell? ⟨b, 0, none⟩ = some (.int .i64 7) := by rw [← HK.out]; exact M0.out 0 _ rfl
  have q3 : w1.cell? ⟨b, 3, none⟩ = some (.int .i64 m.v) := M0.out 3 _ rfl
  have q4 : w1.cell? ⟨b, 4, none⟩ = some (.int .i64 m.n) := M0.out 4 _ rfl
  have q5 : w1.cell? ⟨b, 5, none⟩ = some (.int .i64 m.c) := M0.out 5 _ rfl
  have q6 : w1.cell? ⟨b, 6, none⟩ = some (.int .i64 m.o) := M0.out 6 _ rfl
  have q7 : w1.cell? ⟨b, 7, none⟩ = some (.int .i64 m.l) := M0.out 7 _ rfl
  have q8 : w1.cell? ⟨b, 8, none⟩ = some (.int .i64 m.q) := M0.out 8 _ rfl
  clear HK hz M0
  have F : Hid (z = true) := hid (by rw [E.out] <;> rfl)
  clear E
  go_wp2_with (first | (go_at_call 46; refine (H46.out _).mono ?_; rintro e w' ⟨rfl, rfl⟩) | (go_at_call 47; refine (H47.out _).mono ?_; rintro e w' ⟨rfl, rfl⟩) | (go_at_call 48; refine (H48.out _).mono ?_; rintro e w' ⟨rfl, rfl⟩) | (go_at_call 49; refine (H49.out _).mono ?_; rintro e w' ⟨rfl, rfl⟩) | (go_at_call 50; refine (H50.out _).mono ?_; rintro e w' ⟨rfl, rfl⟩) | (go_at_call 36; refine (rwithin_b _ _ _).mono ?_; rintro e w' ⟨rfl, rfl⟩))
  go_ret
  exact ⟨by rw [F.out]; rfl, BA.out⟩
set_option maxRecDepth 1000000 in
theorem num_k8 {w : World} (m : Ms) (hk : m.k = 8) : Calls Tryz.prog 38 #[m.V] w fun e w' => e = .returned (.bool (m.numB 8)) ∧ Below w.heap.size w w' := by
  obtain ⟨z, hz⟩ : ∃ z, Hid (m.numB 8 = z) := ⟨_, hid rfl⟩
  rw [hz.out]
  have E : Hid (z = (inR m.c 0 1099511627776 && (inR m.o 0 m.v))) := hid (by
    rw [← hz.out]
    show ((!inK 8 75 || inR m.n (lstK ((8 : Nat) : Int)) 1099511627776) && ((!inK 8 67 || inR m.c 0 1099511627776) && ((!inK 8 78 || inR m.o 0 m.v) && ((!inK 8 76 || inR m.l 1 1099511627776) && (!inK 8 81 || inR m.q 1 1099511627776))))) = _
    rw [show inK 8 75 = false from rfl, show inK 8 67 = true from rfl, show inK 8 78 = true from rfl, show inK 8 76 = false from rfl, show inK 8 81 = false from rfl, show lstK ((8 : Nat) : Int) = 0 from rfl]
    simp)
  have BA := hid (ba w (.cells m.cells.toArray 34))
  have M0 := hid (MsAt.new w m)
  have HK := hid hk
  clear hk
  have H46 : Hid (∀ W : World, Calls Tryz.prog 46 #[.int .i64 8] W fun e w' => e = .returned (.bool false) ∧ w' = W) := hid (fun W => has46 (k := 8) ⟨by omega, by omega⟩)
  have H47 : Hid (∀ W : World, Calls Tryz.prog 47 #[.int .i64 8] W fun e w' => e = .returned (.bool true) ∧ w' = W) := hid (fun W => has47 (k := 8) ⟨by omega, by omega⟩)
  have H48 : Hid (∀ W : World, Calls Tryz.prog 48 #[.int .i64 8] W fun e w' => e = .returned (.bool true) ∧ w' = W) := hid (fun W => has48 (k := 8) ⟨by omega, by omega⟩)
  have H49 : Hid (∀ W : World, Calls Tryz.prog 49 #[.int .i64 8] W fun e w' => e = .returned (.bool false) ∧ w' = W) := hid (fun W => has49 (k := 8) ⟨by omega, by omega⟩)
  have H50 : Hid (∀ W : World, Calls Tryz.prog 50 #[.int .i64 8] W fun e w' => e = .returned (.bool false) ∧ w' = W) := hid (fun W => has50 (k := 8) ⟨by omega, by omega⟩)
  go_enter Tryz.func38, Tryz.ntmps38
  go_upto_region 1 with fail
  obtain ⟨b, hbb⟩ : ∃ b, Hid (b = w.heap.size) := ⟨_, hid rfl⟩
  rw [← hbb.out] at M0 ⊢
  change Code.wp _ _ _ _ (w.alloc (.cells m.cells.toArray 34))
  generalize w.alloc (.cells m.cells.toArray 34) = w1 at BA M0 ⊢
  have q0 : w1.cell? ⟨b, 0, none⟩ = some (.int .i64 8) := by rw [← HK.out]; exact M0.out 0 _ rfl
  have q3 : w1.cell? ⟨b, 3, none⟩ = some (.int .i64 m.v) := M0.out 3 _ rfl
  have q4 : w1.cell? ⟨b, 4, none⟩ = some (.int .i64 m.n) := M0.out 4 _ rfl
  have q5 : w1.cell? ⟨b, 5, none⟩ = some (.int .i64 m.c) := M0.out 5 _ rfl
  have q6 : w1.cell? ⟨b, 6, none⟩ = some (.int .i64 m.o) := M0.out 6 _ rfl
  have q7 : w1.cell? ⟨b, 7, none⟩ = some (.int .i64 m.l) := M0.out 7 _ rfl
  have q8 : w1.cell? ⟨b, 8, none⟩ = some (.int .i64 m.q) := M0.out 8 _ rfl
  clear HK hz M0
  cases e0 : inR m.c 0 1099511627776 with
  | false =>
    have F : Hid (z = false) := hid (by rw [E.out, e0] <;> rfl)
    clear E
    go_wp2_with (first | (go_at_call 46; refine (H46.out _).mono ?_; rintro e w' ⟨rfl, rfl⟩) | (go_at_call 47; refine (H47.out _).mono ?_; rintro e w' ⟨rfl, rfl⟩) | (go_at_call 48; refine (H48.out _).mono ?_; rintro e w' ⟨rfl, rfl⟩) | (go_at_call 49; refine (H49.out _).mono ?_; rintro e w' ⟨rfl, rfl⟩) | (go_at_call 50; refine (H50.out _).mono ?_; rintro e w' ⟨rfl, rfl⟩) | (go_at_call 36; refine (rwithin_b _ _ _).mono ?_; rintro e w' ⟨rfl, rfl⟩))
    go_ret
    exact ⟨by rw [F.out]; rfl, BA.out⟩
  | true =>
  cases e1 : inR m.o 0 m.v with
  | false =>
    have F : Hid (z = false) := hid (by rw [E.out, e0, e1] <;> rfl)
    clear E
    go_wp2_with (first | (go_at_call 46; refine (H46.out _).mono ?_; rintro e w' ⟨rfl, rfl⟩) | (go_at_call 47; refine (H47.out _).mono ?_; rintro e w' ⟨rfl, rfl⟩) | (go_at_call 48; refine (H48.out _).mono ?_; rintro e w' ⟨rfl, rfl⟩) | (go_at_call 49; refine (H49.out _).mono ?_; rintro e w' ⟨rfl, rfl⟩) | (go_at_call 50; refine (H50.out _).mono ?_; rintro e w' ⟨rfl, rfl⟩) | (go_at_call 36; refine (rwithin_b _ _ _).mono ?_; rintro e w' ⟨rfl, rfl⟩))
    go_ret
    exact ⟨by rw [F.out]; rfl, BA.out⟩
  | true =>
  have F : Hid (z = true) := hid (by rw [E.out, e0, e1] <;> rfl)
  clear E
  go_wp2_with (first | (go_at_call 46; refine (H46.out _).mono ?_; rintro e w' ⟨rfl, rfl⟩) | (go_at_call 47; refine (H47.out _).mono ?_; rintro e w' ⟨rfl, rfl⟩) | (go_at_call 48; refine (H48.out _).mono ?_; rintro e w' ⟨rfl, rfl⟩) | (go_at_call 49; refine (H49.out _).mono ?_; rintro e w' ⟨rfl, rfl⟩) | (go_at_call 50; refine (H50.out _).mono ?_; rintro e w' ⟨rfl, rfl⟩) | (go_at_call 36; refine (rwithin_b _ _ _).mono ?_; rintro e w' ⟨rfl, rfl⟩))
  go_ret
  exact ⟨by rw [F.out]; rfl, BA.out⟩
set_option maxRecDepth 1000000 in
theorem num_k9 {w : World} (m : Ms) (hk : m.k = 9) : Calls Tryz.prog 38 #[m.V] w fun e w' => e = .returned (.bool (m.numB 9)) ∧ Below w.heap.size w w' := by
  obtain ⟨z, hz⟩ : ∃ z, Hid (m.numB 9 = z) := ⟨_, hid rfl⟩
  rw [hz.out]
  have E : Hid (z = (inR m.c 0 1099511627776)) := hid (by
    rw [← hz.out]
    show ((!inK 9 75 || inR m.n (lstK ((9 : Nat) : Int)) 1099511627776) && ((!inK 9 67 || inR m.c 0 1099511627776) && ((!inK 9 78 || inR m.o 0 m.v) && ((!inK 9 76 || inR m.l 1 1099511627776) && (!inK 9 81 || inR m.q 1 1099511627776))))) = _
    rw [show inK 9 75 = false from rfl, show inK 9 67 = true from rfl, show inK 9 78 = false from rfl, show inK 9 76 = false from rfl, show inK 9 81 = false from rfl, show lstK ((9 : Nat) : Int) = 0 from rfl]
    simp)
  have BA := hid (ba w (.cells m.cells.toArray 34))
  have M0 := hid (MsAt.new w m)
  have HK := hid hk
  clear hk
  have H46 : Hid (∀ W : World, Calls Tryz.prog 46 #[.int .i64 9] W fun e w' => e = .returned (.bool false) ∧ w' = W) := hid (fun W => has46 (k := 9) ⟨by omega, by omega⟩)
  have H47 : Hid (∀ W : World, Calls Tryz.prog 47 #[.int .i64 9] W fun e w' => e = .returned (.bool true) ∧ w' = W) := hid (fun W => has47 (k := 9) ⟨by omega, by omega⟩)
  have H48 : Hid (∀ W : World, Calls Tryz.prog 48 #[.int .i64 9] W fun e w' => e = .returned (.bool false) ∧ w' = W) := hid (fun W => has48 (k := 9) ⟨by omega, by omega⟩)
  have H49 : Hid (∀ W : World, Calls Tryz.prog 49 #[.int .i64 9] W fun e w' => e = .returned (.bool false) ∧ w' = W) := hid (fun W => has49 (k := 9) ⟨by omega, by omega⟩)
  have H50 : Hid (∀ W : World, Calls Tryz.prog 50 #[.int .i64 9] W fun e w' => e = .returned (.bool false) ∧ w' = W) := hid (fun W => has50 (k := 9) ⟨by omega, by omega⟩)
  go_enter Tryz.func38, Tryz.ntmps38
  go_upto_region 1 with fail
  obtain ⟨b, hbb⟩ : ∃ b, Hid (b = w.heap.size) := ⟨_, hid rfl⟩
  rw [← hbb.out] at M0 ⊢
  change Code.wp _ _ _ _ (w.alloc (.cells m.cells.toArray 34))
  generalize w.alloc (.cells m.cells.toArray 34) = w1 at BA M0 ⊢
  have q0 : w1.cell? ⟨b, 0, none⟩ = some (.int .i64 9) := by rw [← HK.out]; exact M0.out 0 _ rfl
  have q3 : w1.cell? ⟨b, 3, none⟩ = some (.int .i64 m.v) := M0.out 3 _ rfl
  have q4 : w1.cell? ⟨b, 4, none⟩ = some (.int .i64 m.n) := M0.out 4 _ rfl
  have q5 : w1.cell? ⟨b, 5, none⟩ = some (.int .i64 m.c) := M0.out 5 _ rfl
  have q6 : w1.cell? ⟨b, 6, none⟩ = some (.int .i64 m.o) := M0.out 6 _ rfl
  have q7 : w1.cell? ⟨b, 7, none⟩ = some (.int .i64 m.l) := M0.out 7 _ rfl
  have q8 : w1.cell? ⟨b, 8, none⟩ = some (.int .i64 m.q) := M0.out 8 _ rfl
  clear HK hz M0
  cases e0 : inR m.c 0 1099511627776 with
  | false =>
    have F : Hid (z = false) := hid (by rw [E.out, e0] <;> rfl)
    clear E
    go_wp2_with (first | (go_at_call 46; refine (H46.out _).mono ?_; rintro e w' ⟨rfl, rfl⟩) | (go_at_call 47; refine (H47.out _).mono ?_; rintro e w' ⟨rfl, rfl⟩) | (go_at_call 48; refine (H48.out _).mono ?_; rintro e w' ⟨rfl, rfl⟩) | (go_at_call 49; refine (H49.out _).mono ?_; rintro e w' ⟨rfl, rfl⟩) | (go_at_call 50; refine (H50.out _).mono ?_; rintro e w' ⟨rfl, rfl⟩) | (go_at_call 36; refine (rwithin_b _ _ _).mono ?_; rintro e w' ⟨rfl, rfl⟩))
    go_ret
    exact ⟨by rw [F.out]; rfl, BA.out⟩
  | true =>
  have F : Hid (z = true) := hid (by rw [E.out, e0] <;> rfl)
  clear E
  go_wp2_with (first | (go_at_call 46; refine (H46.out _).mono ?_; rintro e w' ⟨rfl, rfl⟩) | (go_at_call 47; refine (H47.out _).mono ?_; rintro e w' ⟨rfl, rfl⟩) | (go_at_call 48; refine (H48.out _).mono ?_; rintro e w' ⟨rfl, rfl⟩) | (go_at_call 49; refine (H49.out _).mono ?_; rintro e w' ⟨rfl, rfl⟩) | (go_at_call 50; refine (H50.out _).mono ?_; rintro e w' ⟨rfl, rfl⟩) | (go_at_call 36; refine (rwithin_b _ _ _).mono ?_; rintro e w' ⟨rfl, rfl⟩))
  go_ret
  exact ⟨by rw [F.out]; rfl, BA.out⟩
set_option maxRecDepth 1000000 in
theorem num_k10 {w : World} (m : Ms) (hk : m.k = 10) : Calls Tryz.prog 38 #[m.V] w fun e w' => e = .returned (.bool (m.numB 10)) ∧ Below w.heap.size w w' := by
  obtain ⟨z, hz⟩ : ∃ z, Hid (m.numB 10 = z) := ⟨_, hid rfl⟩
  rw [hz.out]
  have E : Hid (z = (inR m.l 1 1099511627776)) := hid (by
    rw [← hz.out]
    show ((!inK 10 75 || inR m.n (lstK ((10 : Nat) : Int)) 1099511627776) && ((!inK 10 67 || inR m.c 0 1099511627776) && ((!inK 10 78 || inR m.o 0 m.v) && ((!inK 10 76 || inR m.l 1 1099511627776) && (!inK 10 81 || inR m.q 1 1099511627776))))) = _
    rw [show inK 10 75 = false from rfl, show inK 10 67 = false from rfl, show inK 10 78 = false from rfl, show inK 10 76 = true from rfl, show inK 10 81 = false from rfl, show lstK ((10 : Nat) : Int) = 0 from rfl]
    simp)
  have BA := hid (ba w (.cells m.cells.toArray 34))
  have M0 := hid (MsAt.new w m)
  have HK := hid hk
  clear hk
  have H46 : Hid (∀ W : World, Calls Tryz.prog 46 #[.int .i64 10] W fun e w' => e = .returned (.bool false) ∧ w' = W) := hid (fun W => has46 (k := 10) ⟨by omega, by omega⟩)
  have H47 : Hid (∀ W : World, Calls Tryz.prog 47 #[.int .i64 10] W fun e w' => e = .returned (.bool false) ∧ w' = W) := hid (fun W => has47 (k := 10) ⟨by omega, by omega⟩)
  have H48 : Hid (∀ W : World, Calls Tryz.prog 48 #[.int .i64 10] W fun e w' => e = .returned (.bool false) ∧ w' = W) := hid (fun W => has48 (k := 10) ⟨by omega, by omega⟩)
  have H49 : Hid (∀ W : World, Calls Tryz.prog 49 #[.int .i64 10] W fun e w' => e = .returned (.bool true) ∧ w' = W) := hid (fun W => has49 (k := 10) ⟨by omega, by omega⟩)
  have H50 : Hid (∀ W : World, Calls Tryz.prog 50 #[.int .i64 10] W fun e w' => e = .returned (.bool false) ∧ w' = W) := hid (fun W => has50 (k := 10) ⟨by omega, by omega⟩)
  go_enter Tryz.func38, Tryz.ntmps38
  go_upto_region 1 with fail
  obtain ⟨b, hbb⟩ : ∃ b, Hid (b = w.heap.size) := ⟨_, hid rfl⟩
  rw [← hbb.out] at M0 ⊢
  change Code.wp _ _ _ _ (w.alloc (.cells m.cells.toArray 34))
  generalize w.alloc (.cells m.cells.toArray 34) = w1 at BA M0 ⊢
  have q0 : w1.cell? ⟨b, 0, none⟩ = some (.int .i64 10) := by rw [← HK.out]; exact M0.out 0 _ rfl
  have q3 : w1.cell? ⟨b, 3, none⟩ = some (.int .i64 m.v) := M0.out 3 _ rfl
  have q4 : w1.cell? ⟨b, 4, none⟩ = some (.int .i64 m.n) := M0.out 4 _ rfl
  have q5 : w1.cell? ⟨b, 5, none⟩ = some (.int .i64 m.c) := M0.out 5 _ rfl
  have q6 : w1.cell? ⟨b, 6, none⟩ = some (.int .i64 m.o) := M0.out 6 _ rfl
  have q7 : w1.cell? ⟨b, 7, none⟩ = some (.int .i64 m.l) := M0.out 7 _ rfl
  have q8 : w1.cell? ⟨b, 8, none⟩ = some (.int .i64 m.q) := M0.out 8 _ rfl
  clear HK hz M0
  cases e0 : inR m.l 1 1099511627776 with
  | false =>
    have F : Hid (z = false) := hid (by rw [E.out, e0] <;> rfl)
    clear E
    go_wp2_with (first | (go_at_call 46; refine (H46.out _).mono ?_; rintro e w' ⟨rfl, rfl⟩) | (go_at_call 47; refine (H47.out _).mono ?_; rintro e w' ⟨rfl, rfl⟩) | (go_at_call 48; refine (H48.out _).mono ?_; rintro e w' ⟨rfl, rfl⟩) | (go_at_call 49; refine (H49.out _).mono ?_; rintro e w' ⟨rfl, rfl⟩) | (go_at_call 50; refine (H50.out _).mono ?_; rintro e w' ⟨rfl, rfl⟩) | (go_at_call 36; refine (rwithin_b _ _ _).mono ?_; rintro e w' ⟨rfl, rfl⟩))
    go_ret
    exact ⟨by rw [F.out]; rfl, BA.out⟩
  | true =>
  have F : Hid (z = true) := hid (by rw [E.out, e0] <;> rfl)
  clear E
  go_wp2_with (first | (go_at_call 46; refine (H46.out _).mono ?_; rintro e w' ⟨rfl, rfl⟩) | (go_at_call 47; refine (H47.out _).mono ?_; rintro e w' ⟨rfl, rfl⟩) | (go_at_call 48; refine (H48.out _).mono ?_; rintro e w' ⟨rfl, rfl⟩) | (go_at_call 49; refine (H49.out _).mono ?_; rintro e w' ⟨rfl, rfl⟩) | (go_at_call 50; refine (H50.out _).mono ?_; rintro e w' ⟨rfl, rfl⟩) | (go_at_call 36; refine (rwithin_b _ _ _).mono ?_; rintro e w' ⟨rfl, rfl⟩))
  go_ret
  exact ⟨by rw [F.out]; rfl, BA.out⟩
set_option maxRecDepth 1000000 in
theorem num_k11 {w : World} (m : Ms) (hk : m.k = 11) : Calls Tryz.prog 38 #[m.V] w fun e w' => e = .returned (.bool (m.numB 11)) ∧ Below w.heap.size w w' := by
  obtain ⟨z, hz⟩ : ∃ z, Hid (m.numB 11 = z) := ⟨_, hid rfl⟩
  rw [hz.out]
  have E : Hid (z = (inR m.c 0 1099511627776 && (inR m.l 1 1099511627776))) := hid (by
    rw [← hz.out]
    show ((!inK 11 75 || inR m.n (lstK ((11 : Nat) : Int)) 1099511627776) && ((!inK 11 67 || inR m.c 0 1099511627776) && ((!inK 11 78 || inR m.o 0 m.v) && ((!inK 11 76 || inR m.l 1 1099511627776) && (!inK 11 81 || inR m.q 1 1099511627776))))) = _
    rw [show inK 11 75 = false from rfl, show inK 11 67 = true from rfl, show inK 11 78 = false from rfl, show inK 11 76 = true from rfl, show inK 11 81 = false from rfl, show lstK ((11 : Nat) : Int) = 0 from rfl]
    simp)
  have BA := hid (ba w (.cells m.cells.toArray 34))
  have M0 := hid (MsAt.new w m)
  have HK := hid hk
  clear hk
  have H46 : Hid (∀ W : World, Calls Tryz.prog 46 #[.int .i64 11] W fun e w' => e = .returned (.bool false) ∧ w' = W) := hid (fun W => has46 (k := 11) ⟨by omega, by omega⟩)
  have H47 : Hid (∀ W : World, Calls Tryz.prog 47 #[.int .i64 11] W fun e w' => e = .returned (.bool true) ∧ w' = W) := hid (fun W => has47 (k := 11) ⟨by omega, by omega⟩)
  have H48 : Hid (∀ W : World, Calls Tryz.prog 48 #[.int .i64 11] W fun e w' => e = .returned (.bool false) ∧ w' = W) := hid (fun W => has48 (k := 11) ⟨by omega, by omega⟩)
  have H49 : Hid (∀ W : World, Calls Tryz.prog 49 #[.int .i64 11] W fun e w' => e = .returned (.bool true) ∧ w' = W) := hid (fun W => has49 (k := 11) ⟨by omega, by omega⟩)
  have H50 : Hid (∀ W : World, Calls Tryz.prog 50 #[.int .i64 11] W fun e w' => e = .returned (.bool false) ∧ w' = W) := hid (fun W => has50 (k := 11) ⟨by omega, by omega⟩)
  go_enter Tryz.func38, Tryz.ntmps38
  go_upto_region 1 with fail
  obtain ⟨b, hbb⟩ : ∃ b, Hid (b = w.heap.size) := ⟨_, hid rfl⟩
  rw [← hbb.out] at M0 ⊢
  change Code.wp _ _ _ _ (w.alloc (.cells m.cells.toArray 34))
  generalize w.alloc (.cells m.cells.toArray 34) = w1 at BA M0 ⊢
  have q0 : w1.cell? ⟨b, 0, none⟩ = some (.int .i64 11) := by rw [← HK.out]; exact M0.out 0 _ rfl
  have q3 : w1.cell? ⟨b, 3, none⟩ = some (.int .i64 m.v) := M0.out 3 _ rfl
  have q4 : w1.cell? ⟨b, 4, none⟩ = some (.int .i64 m.n) := M0.out 4 _ rfl
  have q5 : w1.cell? ⟨b, 5, none⟩ = some (.int .i64 m.c) := M0.out 5 _ rfl
  have q6 : w1.cell? ⟨b, 6, none⟩ = some (.int .i64 m.o) := M0.out 6 _ rfl
  have q7 : w1.cell? ⟨b, 7, none⟩ = some (.int .i64 m.l) := M0.out 7 _ rfl
  have q8 : w1.cell? ⟨b, 8, none⟩ = some (.int .i64 m.q) := M0.out 8 _ rfl
  clear HK hz M0
  cases e0 : inR m.c 0 1099511627776 with
  | false =>
    have F : Hid (z = false) := hid (by rw [E.out, e0] <;> rfl)
    clear E
    go_wp2_with (first | (go_at_call 46; refine (H46.out _).mono ?_; rintro e w' ⟨rfl, rfl⟩) | (go_at_call 47; refine (H47.out _).mono ?_; rintro e w' ⟨rfl, rfl⟩) | (go_at_call 48; refine (H48.out _).mono ?_; rintro e w' ⟨rfl, rfl⟩) | (go_at_call 49; refine (H49.out _).mono ?_; rintro e w' ⟨rfl, rfl⟩) | (go_at_call 50; refine (H50.out _).mono ?_; rintro e w' ⟨rfl, rfl⟩) | (go_at_call 36; refine (rwithin_b _ _ _).mono ?_; rintro e w' ⟨rfl, rfl⟩))
    go_ret
    exact ⟨by rw [F.out]; rfl, BA.out⟩
  | true =>
  cases e1 : inR m.l 1 1099511627776 with
  | false =>
    have F : Hid (z = false) := hid (by rw [E.out, e0, e1] <;> rfl)
    clear E
    go_wp2_with (first | (go_at_call 46; refine (H46.out _).mono ?_; rintro e w' ⟨rfl, rfl⟩) | (go_at_call 47; refine (H47.out _).mono ?_; rintro e w' ⟨rfl, rfl⟩) | (go_at_call 48; refine (H48.out _).mono ?_; rintro e w' ⟨rfl, rfl⟩) | (go_at_call 49; refine (H49.out _).mono ?_; rintro e w' ⟨rfl, rfl⟩) | (go_at_call 50; refine (H50.out _).mono ?_; rintro e w' ⟨rfl, rfl⟩) | (go_at_call 36; refine (rwithin_b _ _ _).mono ?_; rintro e w' ⟨rfl, rfl⟩))
    go_ret
    exact ⟨by rw [F.out]; rfl, BA.out⟩
  | true =>
  have F : Hid (z = true) := hid (by rw [E.out, e0, e1] <;> rfl)
  clear E
  go_wp2_with (first | (go_at_call 46; refine (H46.out _).mono ?_; rintro e w' ⟨rfl, rfl⟩) | (go_at_call 47; refine (H47.out _).mono ?_; rintro e w' ⟨rfl, rfl⟩) | (go_at_call 48; refine (H48.out _).mono ?_; rintro e w' ⟨rfl, rfl⟩) | (go_at_call 49; refine (H49.out _).mono ?_; rintro e w' ⟨rfl, rfl⟩) | (go_at_call 50; refine (H50.out _).mono ?_; rintro e w' ⟨rfl, rfl⟩) | (go_at_call 36; refine (rwithin_b _ _ _).mono ?_; rintro e w' ⟨rfl, rfl⟩))
  go_ret
  exact ⟨by rw [F.out]; rfl, BA.out⟩
set_option maxRecDepth 1000000 in
theorem num_k12 {w : World} (m : Ms) (hk : m.k = 12) : Calls Tryz.prog 38 #[m.V] w fun e w' => e = .returned (.bool (m.numB 12)) ∧ Below w.heap.size w w' := by
  obtain ⟨z, hz⟩ : ∃ z, Hid (m.numB 12 = z) := ⟨_, hid rfl⟩
  rw [hz.out]
  have E : Hid (z = (inR m.n 0 1099511627776 && (inR m.c 0 1099511627776))) := hid (by
    rw [← hz.out]
    show ((!inK 12 75 || inR m.n (lstK ((12 : Nat) : Int)) 1099511627776) && ((!inK 12 67 || inR m.c 0 1099511627776) && ((!inK 12 78 || inR m.o 0 m.v) && ((!inK 12 76 || inR m.l 1 1099511627776) && (!inK 12 81 || inR m.q 1 1099511627776))))) = _
    rw [show inK 12 75 = true from rfl, show inK 12 67 = true from rfl, show inK 12 78 = false from rfl, show inK 12 76 = false from rfl, show inK 12 81 = false from rfl, show lstK ((12 : Nat) : Int) = 0 from rfl]
    simp)
  have BA := hid (ba w (.cells m.cells.toArray 34))
  have M0 := hid (MsAt.new w m)
  have HK := hid hk
  clear hk
  have H46 : Hid (∀ W : World, Calls Tryz.prog 46 #[.int .i64 12] W fun e w' => e = .returned (.bool true) ∧ w' = W) := hid (fun W => has46 (k := 12) ⟨by omega, by omega⟩)
  have H47 : Hid (∀ W : World, Calls Tryz.prog 47 #[.int .i64 12] W fun e w' => e = .returned (.bool true) ∧ w' = W) := hid (fun W => has47 (k := 12) ⟨by omega, by omega⟩)
  have H48 : Hid (∀ W : World, Calls Tryz.prog 48 #[.int .i64 12] W fun e w' => e = .returned (.bool false) ∧ w' = W) := hid (fun W => has48 (k := 12) ⟨by omega, by omega⟩)
  have H49 : Hid (∀ W : World, Calls Tryz.prog 49 #[.int .i64 12] W fun e w' => e = .returned (.bool false) ∧ w' = W) := hid (fun W => has49 (k := 12) ⟨by omega, by omega⟩)
  have H50 : Hid (∀ W : World, Calls Tryz.prog 50 #[.int .i64 12] W fun e w' => e = .returned (.bool false) ∧ w' = W) := hid (fun W => has50 (k := 12) ⟨by omega, by omega⟩)
  go_enter Tryz.func38, Tryz.ntmps38
  go_upto_region 1 with fail
  obtain ⟨b, hbb⟩ : ∃ b, Hid (b = w.heap.size) := ⟨_, hid rfl⟩
  rw [← hbb.out] at M0 ⊢
  change Code.wp _ _ _ _ (w.alloc (.cells m.cells.toArray 34))
  generalize w.alloc (.cells m.cells.toArray 34) = w1 at BA M0 ⊢
  have q0 : w1.cell? ⟨b, 0, none⟩ = some (.int .i64 12) := by rw [← HK.out]; exact M0.out 0 _ rfl
  have q3 : w1.cell? ⟨b, 3, none⟩ = some (.int .i64 m.v) := M0.out 3 _ rfl
  have q4 : w1.cell? ⟨b, 4, none⟩ = some (.int .i64 m.n) := M0.out 4 _ rfl
  have q5 : w1.cell? ⟨b, 5, none⟩ = some (.int .i64 m.c) := M0.out 5 _ rfl
  have q6 : w1.cell? ⟨b, 6, none⟩ = some (.int .i64 m.o) := M0.out 6 _ rfl
  have q7 : w1.cell? ⟨b, 7, none⟩ = some (.int .i64 m.l) := M0.out 7 _ rfl
  have q8 : w1.cell? ⟨b, 8, none⟩ = some (.int .i64 m.q) := M0.out 8 _ rfl
  clear HK hz M0
  cases e0 : inR m.n 0 1099511627776 with
  | false =>
    have F : Hid (z = false) := hid (by rw [E.out, e0] <;> rfl)
    clear E
    go_wp2_with (first | (go_at_call 46; refine (H46.out _).mono ?_; rintro e w' ⟨rfl, rfl⟩) | (go_at_call 47; refine (H47.out _).mono ?_; rintro e w' ⟨rfl, rfl⟩) | (go_at_call 48; refine (H48.out _).mono ?_; rintro e w' ⟨rfl, rfl⟩) | (go_at_call 49; refine (H49.out _).mono ?_; rintro e w' ⟨rfl, rfl⟩) | (go_at_call 50; refine (H50.out _).mono ?_; rintro e w' ⟨rfl, rfl⟩) | (go_at_call 36; refine (rwithin_b _ _ _).mono ?_; rintro e w' ⟨rfl, rfl⟩))
    go_ret
    exact ⟨by rw [F.out]; rfl, BA.out⟩
  | true =>
  cases e1 : inR m.c 0 1099511627776 with
  | false =>
    have F : Hid (z = false) := hid (by rw [E.out, e0, e1] <;> rfl)
    clear E
    go_wp2_with (first | (go_at_call 46; refine (H46.out _).mono ?_; rintro e w' ⟨rfl, rfl⟩) | (go_at_call 47; refine (H47.out _).mono ?_; rintro e w' ⟨rfl, rfl⟩) | (go_at_call 48; refine (H48.out _).mono ?_; rintro e w' ⟨rfl, rfl⟩) | (go_at_call 49; refine (H49.out _).mono ?_; rintro e w' ⟨rfl, rfl⟩) | (go_at_call 50; refine (H50.out _).mono ?_; rintro e w' ⟨rfl, rfl⟩) | (go_at_call 36; refine (rwithin_b _ _ _).mono ?_; rintro e w' ⟨rfl, rfl⟩))
    go_ret
    exact ⟨by rw [F.out]; rfl, BA.out⟩
  | true =>
  have F : Hid (z = true) := hid (by rw [E.out, e0, e1] <;> rfl)
  clear E
  go_wp2_with (first | (go_at_call 46; refine (H46.out _).mono ?_; rintro e w' ⟨rfl, rfl⟩) | (go_at_call 47; refine (H47.out _).mono ?_; rintro e w' ⟨rfl, rfl⟩) | (go_at_call 48; refine (H48.out _).mono ?_; rintro e w' ⟨rfl, rfl⟩) | (go_at_call 49; refine (H49.out _).mono ?_; rintro e w' ⟨rfl, rfl⟩) | (go_at_call 50; refine (H50.out _).mono ?_; rintro e w' ⟨rfl, rfl⟩) | (go_at_call 36; refine (rwithin_b _ _ _).mono ?_; rintro e w' ⟨rfl, rfl⟩))
  go_ret
  exact ⟨by rw [F.out]; rfl, BA.out⟩
set_option maxRecDepth 1000000 in
theorem num_k13 {w : World} (m : Ms) (hk : m.k = 13) : Calls Tryz.prog 38 #[m.V] w fun e w' => e = .returned (.bool (m.numB 13)) ∧ Below w.heap.size w w' := by
  obtain ⟨z, hz⟩ : ∃ z, Hid (m.numB 13 = z) := ⟨_, hid rfl⟩
  rw [hz.out]
  have E : Hid (z = (inR m.c 0 1099511627776)) := hid (by
    rw [← hz.out]
    show ((!inK 13 75 || inR m.n (lstK ((13 : Nat) : Int)) 1099511627776) && ((!inK 13 67 || inR m.c 0 1099511627776) && ((!inK 13 78 || inR m.o 0 m.v) && ((!inK 13 76 || inR m.l 1 1099511627776) && (!inK 13 81 || inR m.q 1 1099511627776))))) = _
    rw [show inK 13 75 = false from rfl, show inK 13 67 = true from rfl, show inK 13 78 = false from rfl, show inK 13 76 = false from rfl, show inK 13 81 = false from rfl, show lstK ((13 : Nat) : Int) = 0 from rfl]
    simp)
  have BA := hid (ba w (.cells m.cells.toArray 34))
  have M0 := hid (MsAt.new w m)
  have HK := hid hk
  clear hk
  have H46 : Hid (∀ W : World, Calls Tryz.prog 46 #[.int .i64 13] W fun e w' => e = .returned (.bool false) ∧ w' = W) := hid (fun W => has46 (k := 13) ⟨by omega, by omega⟩)
  have H47 : Hid (∀ W : World, Calls Tryz.prog 47 #[.int .i64 13] W fun e w' => e = .returned (.bool true) ∧ w' = W) := hid (fun W => has47 (k := 13) ⟨by omega, by omega⟩)
  have H48 : Hid (∀ W : World, Calls Tryz.prog 48 #[.int .i64 13] W fun e w' => e = .returned (.bool false) ∧ w' = W) := hid (fun W => has48 (k := 13) ⟨by omega, by omega⟩)
  have H49 : Hid (∀ W : World, Calls Tryz.prog 49 #[.int .i64 13] W fun e w' => e = .returned (.bool false) ∧ w' = W) := hid (fun W => has49 (k := 13) ⟨by omega, by omega⟩)
  have H50 : Hid (∀ W : World, Calls Tryz.prog 50 #[.int .i64 13] W fun e w' => e = .returned (.bool false) ∧ w' = W) := hid (fun W => has50 (k := 13) ⟨by omega, by omega⟩)
  go_enter Tryz.func38, Tryz.ntmps38
  go_upto_region 1 with fail
  obtain ⟨b, hbb⟩ : ∃ b, Hid (b = w.heap.size) := ⟨_, hid rfl⟩
  rw [← hbb.out] at M0 ⊢
  change Code.wp _ _ _ _ (w.alloc (.cells m.cells.toArray 34))
  generalize w.alloc (.cells m.cells.toArray 34) = w1 at BA M0 ⊢
  have q0 : w1.cell? ⟨b, 0, none⟩ = some (.int .i64 13) := by rw [← HK.out]; exact M0.out 0 _ rfl
  have q3 : w1.cell? ⟨b, 3, none⟩ = some (.int .i64 m.v) := M0.out 3 _ rfl
  have q4 : w1.cell? ⟨b, 4, none⟩ = some (.int .i64 m.n) := M0.out 4 _ rfl
  have q5 : w1.cell? ⟨b, 5, none⟩ = some (.int .i64 m.c) := M0.out 5 _ rfl
  have q6 : w1.cell? ⟨b, 6, none⟩ = some (.int .i64 m.o) := M0.out 6 _ rfl
  have q7 : w1.cell? ⟨b, 7, none⟩ = some (.int .i64 m.l) := M0.out 7 _ rfl
  have q8 : w1.cell? ⟨b, 8, none⟩ = some (.int .i64 m.q) := M0.out 8 _ rfl
  clear HK hz M0
  cases e0 : inR m.c 0 1099511627776 with
  | false =>
    have F : Hid (z = false) := hid (by rw [E.out, e0] <;> rfl)
    clear E
    go_wp2_with (first | (go_at_call 46; refine (H46.out _).mono ?_; rintro e w' ⟨rfl, rfl⟩) | (go_at_call 47; refine (H47.out _).mono ?_; rintro e w' ⟨rfl, rfl⟩) | (go_at_call 48; refine (H48.out _).mono ?_; rintro e w' ⟨rfl, rfl⟩) | (go_at_call 49; refine (H49.out _).mono ?_; rintro e w' ⟨rfl, rfl⟩) | (go_at_call 50; refine (H50.out _).mono ?_; rintro e w' ⟨rfl, rfl⟩) | (go_at_call 36; refine (rwithin_b _ _ _).mono ?_; rintro e w' ⟨rfl, rfl⟩))
    go_ret
    exact ⟨by rw [F.out]; rfl, BA.out⟩
  | true =>
  have F : Hid (z = true) := hid (by rw [E.out, e0] <;> rfl)
  clear E
  go_wp2_with (first | (go_at_call 46; refine (H46.out _).mono ?_; rintro e w' ⟨rfl, rfl⟩) | (go_at_call 47; refine (H47.out _).mono ?_; rintro e w' ⟨rfl, rfl⟩) | (go_at_call 48; refine (H48.out _).mono ?_; rintro e w' ⟨rfl, rfl⟩) | (go_at_call 49; refine (H49.out _).mono ?_; rintro e w' ⟨rfl, rfl⟩) | (go_at_call 50; refine (H50.out _).mono ?_; rintro e w' ⟨rfl, rfl⟩) | (go_at_call 36; refine (rwithin_b _ _ _).mono ?_; rintro e w' ⟨rfl, rfl⟩))
  go_ret
  exact ⟨by rw [F.out]; rfl, BA.out⟩
set_option maxRecDepth 1000000 in
theorem num_k14 {w : World} (m : Ms) (hk : m.k = 14) : Calls Tryz.prog 38 #[m.V] w fun e w' => e = .returned (.bool (m.numB 14)) ∧ Below w.heap.size w w' := by
  obtain ⟨z, hz⟩ : ∃ z, Hid (m.numB 14 = z) := ⟨_, hid rfl⟩
  rw [hz.out]
  have E : Hid (z = (inR m.n 0 1099511627776 && (inR m.q 1 1099511627776))) := hid (by
    rw [← hz.out]
    show ((!inK 14 75 || inR m.n (lstK ((14 : Nat) : Int)) 1099511627776) && ((!inK 14 67 || inR m.c 0 1099511627776) && ((!inK 14 78 || inR m.o 0 m.v) && ((!inK 14 76 || inR m.l 1 1099511627776) && (!inK 14 81 || inR m.q 1 1099511627776))))) = _
    rw [show inK 14 75 = true from rfl, show inK 14 67 = false from rfl, show inK 14 78 = false from rfl, show inK 14 76 = false from rfl, show inK 14 81 = true from rfl, show lstK ((14 : Nat) : Int) = 0 from rfl]
    simp)
  have BA := hid (ba w (.cells m.cells.toArray 34))
  have M0 := hid (MsAt.new w m)
  have HK := hid hk
  clear hk
  have H46 : Hid (∀ W : World, Calls Tryz.prog 46 #[.int .i64 14] W fun e w' => e = .returned (.bool true) ∧ w' = W) := hid (fun W => has46 (k := 14) ⟨by omega, by omega⟩)
  have H47 : Hid (∀ W : World, Calls Tryz.prog 47 #[.int .i64 14] W fun e w' => e = .returned (.bool false) ∧ w' = W) := hid (fun W => has47 (k := 14) ⟨by omega, by omega⟩)
  have H48 : Hid (∀ W : World, Calls Tryz.prog 48 #[.int .i64 14] W fun e w' => e = .returned (.bool false) ∧ w' = W) := hid (fun W => has48 (k := 14) ⟨by omega, by omega⟩)
  have H49 : Hid (∀ W : World, Calls Tryz.prog 49 #[.int .i64 14] W fun e w' => e = .returned (.bool false) ∧ w' = W) := hid (fun W => has49 (k := 14) ⟨by omega, by omega⟩)
  have H50 : Hid (∀ W : World, Calls Tryz.prog 50 #[.int .i64 14] W fun e w' => e = .returned (.bool true) ∧ w' = W) := hid (fun W => has50 (k := 14) ⟨by omega, by omega⟩)
  go_enter Tryz.func38, Tryz.ntmps38
  go_upto_region 1 with fail
  obtain ⟨b, hbb⟩ : ∃ b, Hid (b = w.heap.size) := ⟨_, hid rfl⟩
  rw [← hbb.out] at M0 ⊢
  change Code.wp _ _ _ _ (w.alloc (.cells m.cells.toArray 34))
  generalize w.alloc (.cells m.cells.toArray 34) = w1 at BA M0 ⊢
  have q0 : w1.cell? ⟨b, 0, none⟩ = some (.int .i64 14) := by rw [← HK.out]; exact M0.out 0 _ rfl
  have q3 : w1.cell? ⟨b, 3, none⟩ = some (.int .i64 m.v) := M0.out 3 _ rfl
  have q4 : w1.cell? ⟨b, 4, none⟩ = some (.int .i64 m.n) := M0.out 4 _ rfl
  have q5 : w1.cell? ⟨b, 5, none⟩ = some (.int .i64 m.c) := M0.out 5 _ rfl
  have q6 : w1.cell? ⟨b, 6, none⟩ = some (.int .i64 m.o) := M0.out 6 _ rfl
  have q7 : w1.cell? ⟨b, 7, none⟩ = some (.int .i64 m.l) := M0.out 7 _ rfl
  have q8 : w1.cell? ⟨b, 8, none⟩ = some (.int .i64 m.q) := M0.out 8 _ rfl
  clear HK hz M0
  cases e0 : inR m.n 0 1099511627776 with
  | false =>
    have F : Hid (z = false) := hid (by rw [E.out, e0] <;> rfl)
    clear E
    go_wp2_with (first | (go_at_call 46; refine (H46.out _).mono ?_; rintro e w' ⟨rfl, rfl⟩) | (go_at_call 47; refine (H47.out _).mono ?_; rintro e w' ⟨rfl, rfl⟩) | (go_at_call 48; refine (H48.out _).mono ?_; rintro e w' ⟨rfl, rfl⟩) | (go_at_call 49; refine (H49.out _).mono ?_; rintro e w' ⟨rfl, rfl⟩) | (go_at_call 50; refine (H50.out _).mono ?_; rintro e w' ⟨rfl, rfl⟩) | (go_at_call 36; refine (rwithin_b _ _ _).mono ?_; rintro e w' ⟨rfl, rfl⟩))
    go_ret
    exact ⟨by rw [F.out]; rfl, BA.out⟩
  | true =>
  cases e1 : inR m.q 1 1099511627776 with
  | false =>
    have F : Hid (z = false) := hid (by rw [E.out, e0, e1] <;> rfl)
    clear E
    go_wp2_with (first | (go_at_call 46; refine (H46.out _).mono ?_; rintro e w' ⟨rfl, rfl⟩) | (go_at_call 47; refine (H47.out _).mono ?_; rintro e w' ⟨rfl, rfl⟩) | (go_at_call 48; refine (H48.out _).mono ?_; rintro e w' ⟨rfl, rfl⟩) | (go_at_call 49; refine (H49.out _).mono ?_; rintro e w' ⟨rfl, rfl⟩) | (go_at_call 50; refine (H50.out _).mono ?_; rintro e w' ⟨rfl, rfl⟩) | (go_at_call 36; refine (rwithin_b _ _ _).mono ?_; rintro e w' ⟨rfl, rfl⟩))
    go_ret
    exact ⟨by rw [F.out]; rfl, BA.out⟩
  | true =>
  have F : Hid (z = true) := hid (by rw [E.out, e0, e1] <;> rfl)
  clear E
  go_wp2_with (first | (go_at_call 46; refine (H46.out _).mono ?_; rintro e w' ⟨rfl, rfl⟩) | (go_at_call 47; refine (H47.out _).mono ?_; rintro e w' ⟨rfl, rfl⟩) | (go_at_call 48; refine (H48.out _).mono ?_; rintro e w' ⟨rfl, rfl⟩) | (go_at_call 49; refine (H49.out _).mono ?_; rintro e w' ⟨rfl, rfl⟩) | (go_at_call 50; refine (H50.out _).mono ?_; rintro e w' ⟨rfl, rfl⟩) | (go_at_call 36; refine (rwithin_b _ _ _).mono ?_; rintro e w' ⟨rfl, rfl⟩))
  go_ret
  exact ⟨by rw [F.out]; rfl, BA.out⟩
set_option maxRecDepth 1000000 in
theorem num_k15 {w : World} (m : Ms) (hk : m.k = 15) : Calls Tryz.prog 38 #[m.V] w fun e w' => e = .returned (.bool (m.numB 15)) ∧ Below w.heap.size w w' := by
  obtain ⟨z, hz⟩ : ∃ z, Hid (m.numB 15 = z) := ⟨_, hid rfl⟩
  rw [hz.out]
  have E : Hid (z = (inR m.n 0 1099511627776 && (inR m.q 1 1099511627776))) := hid (by
    rw [← hz.out]
    show ((!inK 15 75 || inR m.n (lstK ((15 : Nat) : Int)) 1099511627776) && ((!inK 15 67 || inR m.c 0 1099511627776) && ((!inK 15 78 || inR m.o 0 m.v) && ((!inK 15 76 || inR m.l 1 1099511627776) && (!inK 15 81 || inR m.q 1 1099511627776))))) = _
    rw [show inK 15 75 = true from rfl, show inK 15 67 = false from rfl, show inK 15 78 = false from rfl, show inK 15 76 = false from rfl, show inK 15 81 = true from rfl, show lstK ((15 : Nat) : Int) = 0 from rfl]
    simp)
  have BA := hid (ba w (.cells m.cells.toArray 34))
  have M0 := hid (MsAt.new w m)
  have HK := hid hk
  clear hk
  have H46 : Hid (∀ W : World, Calls Tryz.prog 46 #[.int .i64 15] W fun e w' => e = .returned (.bool true) ∧ w' = W) := hid (fun W => has46 (k := 15) ⟨by omega, by omega⟩)
  have H47 : Hid (∀ W : World, Calls Tryz.prog 47 #[.int .i64 15] W fun e w' => e = .returned (.bool false) ∧ w' = W) := hid (fun W => has47 (k := 15) ⟨by omega, by omega⟩)
  have H48 : Hid (∀ W : World, Calls Tryz.prog 48 #[.int .i64 15] W fun e w' => e = .returned (.bool false) ∧ w' = W) := hid (fun W => has48 (k := 15) ⟨by omega, by omega⟩)
  have H49 : Hid (∀ W : World, Calls Tryz.prog 49 #[.int .i64 15] W fun e w' => e = .returned (.bool false) ∧ w' = W) := hid (fun W => has49 (k := 15) ⟨by omega, by omega⟩)
  have H50 : Hid (∀ W : World, Calls Tryz.prog 50 #[.int .i64 15] W fun e w' => e = .returned (.bool true) ∧ w' = W) := hid (fun W => has50 (k := 15) ⟨by omega, by omega⟩)
  go_enter Tryz.func38, Tryz.ntmps38
  go_upto_region 1 with fail
  obtain ⟨b, hbb⟩ : ∃ b, Hid (b = w.heap.size) := ⟨_, hid rfl⟩
  rw [← hbb.out] at M0 ⊢
  change Code.wp _ _ _ _ (w.alloc (.cells m.cells.toArray 34))
  generalize w.alloc (.cells m.cells.toArray 34) = w1 at BA M0 ⊢
  have q0 : w1.cell? ⟨b, 0, none⟩ = some (.int .i64 15) := by rw [← HK.out]; exact M0.out 0 _ rfl
  have q3 : w1.cell? ⟨b, 3, none⟩ = some (.int .i64 m.v) := M0.out 3 _ rfl
  have q4 : w1.cell? ⟨b, 4, none⟩ = some (.int .i64 m.n) := M0.out 4 _ rfl
  have q5 : w1.cell? ⟨b, 5, none⟩ = some (.int .i64 m.c) := M0.out 5 _ rfl
  have q6 : w1.cell? ⟨b, 6, none⟩ = some (.int .i64 m.o) := M0.out 6 _ rfl
  have q7 : w1.cell? ⟨b, 7, none⟩ = some (.int .i64 m.l) := M0.out 7 _ rfl
  have q8 : w1.cell? ⟨b, 8, none⟩ = some (.int .i64 m.q) := M0.out 8 _ rfl
  clear HK hz M0
  cases e0 : inR m.n 0 1099511627776 with
  | false =>
    have F : Hid (z = false) := hid (by rw [E.out, e0] <;> rfl)
    clear E
    go_wp2_with (first | (go_at_call 46; refine (H46.out _).mono ?_; rintro e w' ⟨rfl, rfl⟩) | (go_at_call 47; refine (H47.out _).mono ?_; rintro e w' ⟨rfl, rfl⟩) | (go_at_call 48; refine (H48.out _).mono ?_; rintro e w' ⟨rfl, rfl⟩) | (go_at_call 49; refine (H49.out _).mono ?_; rintro e w' ⟨rfl, rfl⟩) | (go_at_call 50; refine (H50.out _).mono ?_; rintro e w' ⟨rfl, rfl⟩) | (go_at_call 36; refine (rwithin_b _ _ _).mono ?_; rintro e w' ⟨rfl, rfl⟩))
    go_ret
    exact ⟨by rw [F.out]; rfl, BA.out⟩
  | true =>
  cases e1 : inR m.q 1 1099511627776 with
  | false =>
    have F : Hid (z = false) := hid (by rw [E.out, e0, e1] <;> rfl)
    clear E
    go_wp2_with (first | (go_at_call 46; refine (H46.out _).mono ?_; rintro e w' ⟨rfl, rfl⟩) | (go_at_call 47; refine (H47.out _).mono ?_; rintro e w' ⟨rfl, rfl⟩) | (go_at_call 48; refine (H48.out _).mono ?_; rintro e w' ⟨rfl, rfl⟩) | (go_at_call 49; refine (H49.out _).mono ?_; rintro e w' ⟨rfl, rfl⟩) | (go_at_call 50; refine (H50.out _).mono ?_; rintro e w' ⟨rfl, rfl⟩) | (go_at_call 36; refine (rwithin_b _ _ _).mono ?_; rintro e w' ⟨rfl, rfl⟩))
    go_ret
    exact ⟨by rw [F.out]; rfl, BA.out⟩
  | true =>
  have F : Hid (z = true) := hid (by rw [E.out, e0, e1] <;> rfl)
  clear E
  go_wp2_with (first | (go_at_call 46; refine (H46.out _).mono ?_; rintro e w' ⟨rfl, rfl⟩) | (go_at_call 47; refine (H47.out _).mono ?_; rintro e w' ⟨rfl, rfl⟩) | (go_at_call 48; refine (H48.out _).mono ?_; rintro e w' ⟨rfl, rfl⟩) | (go_at_call 49; refine (H49.out _).mono ?_; rintro e w' ⟨rfl, rfl⟩) | (go_at_call 50; refine (H50.out _).mono ?_; rintro e w' ⟨rfl, rfl⟩) | (go_at_call 36; refine (rwithin_b _ _ _).mono ?_; rintro e w' ⟨rfl, rfl⟩))
  go_ret
  exact ⟨by rw [F.out]; rfl, BA.out⟩
theorem nums_any {w : World} (m : Ms) {k : Nat} (h : 1 ≤ k ∧ k ≤ 15) (hk : m.k = (k : Int)) : Calls Tryz.prog 38 #[m.V] w fun e w' => e = .returned (.bool (m.numB k)) ∧ Below w.heap.size w w' := by
  rcases k_cases h with rfl | rfl | rfl | rfl | rfl | rfl | rfl | rfl | rfl | rfl | rfl | rfl | rfl | rfl | rfl
  · exact num_k1 m hk
  · exact num_k2 m hk
  · exact num_k3 m hk
  · exact num_k4 m hk
  · exact num_k5 m hk
  · exact num_k6 m hk
  · exact num_k7 m hk
  · exact num_k8 m hk
  · exact num_k9 m hk
  · exact num_k10 m hk
  · exact num_k11 m hk
  · exact num_k12 m hk
  · exact num_k13 m hk
  · exact num_k14 m hk
  · exact num_k15 m hk
end Go.Proofs.YthoppemjfdnibaaGreatDoor
