import Derived.Test.YtgmjjopfpenceabDoorE1
namespace Go.Proofs.YtgmjjopfpenceabDoor
open Go.RowKit
set_option linter.unusedVariables false

/-- A word's code. -/
def codeW (x : List UInt8) : Option Nat := findW x 0 cdN
def codeA (x : List UInt8) : Value := .tuple #[.int .i64 (((codeW x).getD 0 : Nat) : Int), .bool (codeW x).isSome]

set_option maxHeartbeats 1600000 in
set_option maxRecDepth 1000000 in
theorem codeOf_any {x : List UInt8} {w : World} (C : Cd w) : Calls Tryd.prog 18 #[.string ⟨x.toArray⟩] w fun e w' => e = .returned (codeA x) ∧ w' = w := by
  have c0 := C.2 0 (by omega)
  have c1 := C.2 1 (by omega)
  have c2 := C.2 2 (by omega)
  have c3 := C.2 3 (by omega)
  have c4 := C.2 4 (by omega)
  have q0 := ba_ne (x := cdN.getD 0 []) (y := x)
  have q1 := ba_ne (x := cdN.getD 1 []) (y := x)
  have q2 := ba_ne (x := cdN.getD 2 []) (y := x)
  have q3 := ba_ne (x := cdN.getD 3 []) (y := x)
  have q4 := ba_ne (x := cdN.getD 4 []) (y := x)
  have F : Hid (codeW x = if cdN.getD 0 [] = x then some 0 else if cdN.getD 1 [] = x then some 1 else if cdN.getD 2 [] = x then some 2 else if cdN.getD 3 [] = x then some 3 else if cdN.getD 4 [] = x then some 4 else none) := hid (by
    unfold codeW cdN
    simp only [findW]
    rfl)
  have key : ∀ D, codeW x = D → Hid (codeA x = .tuple #[.int .i64 ((D.getD 0 : Nat) : Int), .bool D.isSome]) := fun D h => hid (by unfold codeA; rw [h])
  generalize codeA x = AN at *
  clear C
  generalize hd0 : cdN.getD 0 [] = d0 at *
  generalize hd1 : cdN.getD 1 [] = d1 at *
  generalize hd2 : cdN.getD 2 [] = d2 at *
  generalize hd3 : cdN.getD 3 [] = d3 at *
  generalize hd4 : cdN.getD 4 [] = d4 at *
  clear hd0 hd1 hd2 hd3 hd4
  generalize ByteArray.mk x.toArray = X at *
  generalize ByteArray.mk d0.toArray = D0 at *
  generalize ByteArray.mk d1.toArray = D1 at *
  generalize ByteArray.mk d2.toArray = D2 at *
  generalize ByteArray.mk d3.toArray = D3 at *
  generalize ByteArray.mk d4.toArray = D4 at *
  have ix0 : ∀ W, (Instr.index 36 (.agg #[.string D0, .string D1, .string D2, .string D3, .string D4]) (.int .i64 0)).run Tryd.prog W = .ok (.string D0) W := fun W => by kernel_rfl
  have ix1 : ∀ W, (Instr.index 36 (.agg #[.string D0, .string D1, .string D2, .string D3, .string D4]) (.int .i64 1)).run Tryd.prog W = .ok (.string D1) W := fun W => by kernel_rfl
  have ix2 : ∀ W, (Instr.index 36 (.agg #[.string D0, .string D1, .string D2, .string D3, .string D4]) (.int .i64 2)).run Tryd.prog W = .ok (.string D2) W := fun W => by kernel_rfl
  have ix3 : ∀ W, (Instr.index 36 (.agg #[.string D0, .string D1, .string D2, .string D3, .string D4]) (.int .i64 3)).run Tryd.prog W = .ok (.string D3) W := fun W => by kernel_rfl
  have ix4 : ∀ W, (Instr.index 36 (.agg #[.string D0, .string D1, .string D2, .string D3, .string D4]) (.int .i64 4)).run Tryd.prog W = .ok (.string D4) W := fun W => by kernel_rfl
  go_enter Tryd.func18, Tryd.ntmps18
  go_wp2
  go_loopw [7] (fun iv wr => ∃ k : Int, 0 ≤ k ∧ k ≤ 5 ∧ iv = .int .i64 k ∧ wr = w ∧ Hid ((0 < k → d0 ≠ x) ∧ (1 < k → d1 ≠ x) ∧ (2 < k → d2 ≠ x) ∧ (3 < k → d3 ≠ x) ∧ (4 < k → d4 ≠ x))) (fun iv _ => 5 - (intOf iv).toNat)
  case atStart => exact ⟨0, by omega, by omega, rfl, rfl, hid ⟨fun h => absurd h (by omega), fun h => absurd h (by omega), fun h => absurd h (by omega), fun h => absurd h (by omega), fun h => absurd h (by omega)⟩⟩
  case round =>
    obtain ⟨k, hk0, hk5, rfl, rfl, hn⟩ := hrel
    obtain rfl | rfl | rfl | rfl | rfl | rfl : k = 0 ∨ k = 1 ∨ k = 2 ∨ k = 3 ∨ k = 4 ∨ k = 5 := by omega
    · clear hk0 hk5
      by_cases e0 : d0 = x
      · have H := key (some 0) (by rw [F.out, if_pos e0])
        rw [decide_eq_true e0] at q0
        clear key F hn e0
        go_wp2
        go_ret2
        exact ⟨by rw [H.out]; rfl, rfl⟩
      · rw [decide_eq_false e0] at q0
        have nx : Hid ((0 < (0 : Int) + 1 → d0 ≠ x) ∧ (1 < (0 : Int) + 1 → d1 ≠ x) ∧ (2 < (0 : Int) + 1 → d2 ≠ x) ∧ (3 < (0 : Int) + 1 → d3 ≠ x) ∧ (4 < (0 : Int) + 1 → d4 ≠ x)) := hid ⟨fun _ => e0, fun h => by first | exact hn.out.2.1 (by omega) | exact e0 | omega, fun h => by first | exact hn.out.2.2.1 (by omega) | exact e0 | omega, fun h => by first | exact hn.out.2.2.2.1 (by omega) | exact e0 | omega, fun h => by first | exact hn.out.2.2.2.2 (by omega) | exact e0 | omega⟩
        clear hn e0
        go_wp2
        go_roundw
        case rel => exact ⟨0 + 1, by omega, by omega, by go_num, trivial, nx⟩
        case measure => simp [intOf]
    · clear hk0 hk5
      by_cases e1 : d1 = x
      · have H := key (some 1) (by rw [F.out, if_neg (hn.out.1 (by omega)), if_pos e1])
        rw [decide_eq_true e1] at q1
        clear key F hn e1
        go_wp2
        go_ret2
        exact ⟨by rw [H.out]; rfl, rfl⟩
      · rw [decide_eq_false e1] at q1
        have nx : Hid ((0 < (1 : Int) + 1 → d0 ≠ x) ∧ (1 < (1 : Int) + 1 → d1 ≠ x) ∧ (2 < (1 : Int) + 1 → d2 ≠ x) ∧ (3 < (1 : Int) + 1 → d3 ≠ x) ∧ (4 < (1 : Int) + 1 → d4 ≠ x)) := hid ⟨fun h => by first | exact hn.out.1 (by omega) | exact e1 | omega, fun _ => e1, fun h => by first | exact hn.out.2.2.1 (by omega) | exact e1 | omega, fun h => by first | exact hn.out.2.2.2.1 (by omega) | exact e1 | omega, fun h => by first | exact hn.out.2.2.2.2 (by omega) | exact e1 | omega⟩
        clear hn e1
        go_wp2
        go_roundw
        case rel => exact ⟨1 + 1, by omega, by omega, by go_num, trivial, nx⟩
        case measure => simp [intOf]
    · clear hk0 hk5
      by_cases e2 : d2 = x
      · have H := key (some 2) (by rw [F.out, if_neg (hn.out.1 (by omega)), if_neg (hn.out.2.1 (by omega)), if_pos e2])
        rw [decide_eq_true e2] at q2
        clear key F hn e2
        go_wp2
        go_ret2
        exact ⟨by rw [H.out]; rfl, rfl⟩
      · rw [decide_eq_false e2] at q2
        have nx : Hid ((0 < (2 : Int) + 1 → d0 ≠ x) ∧ (1 < (2 : Int) + 1 → d1 ≠ x) ∧ (2 < (2 : Int) + 1 → d2 ≠ x) ∧ (3 < (2 : Int) + 1 → d3 ≠ x) ∧ (4 < (2 : Int) + 1 → d4 ≠ x)) := hid ⟨fun h => by first | exact hn.out.1 (by omega) | exact e2 | omega, fun h => by first | exact hn.out.2.1 (by omega) | exact e2 | omega, fun _ => e2, fun h => by first | exact hn.out.2.2.2.1 (by omega) | exact e2 | omega, fun h => by first | exact hn.out.2.2.2.2 (by omega) | exact e2 | omega⟩
        clear hn e2
        go_wp2
        go_roundw
        case rel => exact ⟨2 + 1, by omega, by omega, by go_num, trivial, nx⟩
        case measure => simp [intOf]
    · clear hk0 hk5
      by_cases e3 : d3 = x
      · have H := key (some 3) (by rw [F.out, if_neg (hn.out.1 (by omega)), if_neg (hn.out.2.1 (by omega)), if_neg (hn.out.2.2.1 (by omega)), if_pos e3])
        rw [decide_eq_true e3] at q3
        clear key F hn e3
        go_wp2
        go_ret2
        exact ⟨by rw [H.out]; rfl, rfl⟩
      · rw [decide_eq_false e3] at q3
        have nx : Hid ((0 < (3 : Int) + 1 → d0 ≠ x) ∧ (1 < (3 : Int) + 1 → d1 ≠ x) ∧ (2 < (3 : Int) + 1 → d2 ≠ x) ∧ (3 < (3 : Int) + 1 → d3 ≠ x) ∧ (4 < (3 : Int) + 1 → d4 ≠ x)) := hid ⟨fun h => by first | exact hn.out.1 (by omega) | exact e3 | omega, fun h => by first | exact hn.out.2.1 (by omega) | exact e3 | omega, fun h => by first | exact hn.out.2.2.1 (by omega) | exact e3 | omega, fun _ => e3, fun h => by first | exact hn.out.2.2.2.2 (by omega) | exact e3 | omega⟩
        clear hn e3
        go_wp2
        go_roundw
        case rel => exact ⟨3 + 1, by omega, by omega, by go_num, trivial, nx⟩
        case measure => simp [intOf]
    · clear hk0 hk5
      by_cases e4 : d4 = x
      · have H := key (some 4) (by rw [F.out, if_neg (hn.out.1 (by omega)), if_neg (hn.out.2.1 (by omega)), if_neg (hn.out.2.2.1 (by omega)), if_neg (hn.out.2.2.2.1 (by omega)), if_pos e4])
        rw [decide_eq_true e4] at q4
        clear key F hn e4
        go_wp2
        go_ret2
        exact ⟨by rw [H.out]; rfl, rfl⟩
      · rw [decide_eq_false e4] at q4
        have nx : Hid ((0 < (4 : Int) + 1 → d0 ≠ x) ∧ (1 < (4 : Int) + 1 → d1 ≠ x) ∧ (2 < (4 : Int) + 1 → d2 ≠ x) ∧ (3 < (4 : Int) + 1 → d3 ≠ x) ∧ (4 < (4 : Int) + 1 → d4 ≠ x)) := hid ⟨fun h => by first | exact hn.out.1 (by omega) | exact e4 | omega, fun h => by first | exact hn.out.2.1 (by omega) | exact e4 | omega, fun h => by first | exact hn.out.2.2.1 (by omega) | exact e4 | omega, fun h => by first | exact hn.out.2.2.2.1 (by omega) | exact e4 | omega, fun _ => e4⟩
        clear hn e4
        go_wp2
        go_roundw
        case rel => exact ⟨4 + 1, by omega, by omega, by go_num, trivial, nx⟩
        case measure => simp [intOf]
    · clear hk0 hk5
      have H := key none (by rw [F.out, if_neg (hn.out.1 (by omega)), if_neg (hn.out.2.1 (by omega)), if_neg (hn.out.2.2.1 (by omega)), if_neg (hn.out.2.2.2.1 (by omega)), if_neg (hn.out.2.2.2.2 (by omega))])
      clear key F hn
      go_wp2
      go_ret2
      exact ⟨by rw [H.out]; rfl, rfl⟩

/-- What numberAt answers. -/
def natA (l : Ws) (p : Nat) : Value := if l.length ≤ p then .tuple #[.int .i64 0, .int .i64 162] else match numW (l.getD p []) with
  | none => .tuple #[.int .i64 0, .int .i64 163]
  | some n => .tuple #[.int .i64 (n : Int), .int .i64 0]

set_option maxHeartbeats 800000 in
set_option maxRecDepth 1000000 in
theorem numberAt_any {v : Value} {l : Ws} {p : Nat} {w : World} (V : Vars w) (h : Rt w v l) (hl : l.length ≤ 140737488355328) (hs : ∀ x ∈ l, x.length ≤ 140737488355328) :
    Calls Tryd.prog 23 #[v, .int .i64 (p : Int)] w fun e w' => e = .returned (natA l p) ∧ Below w.heap.size w w' := by
  obtain ⟨ao, c, rfl⟩ := h.form
  by_cases hp : l.length ≤ p
  · have e1 : natA l p = .tuple #[.int .i64 0, .int .i64 162] := by unfold natA; rw [if_pos hp]
    rw [e1]
    have hp' : (l.length : Int) ≤ (p : Int) := by omega
    clear e1 hp h V hs
    generalize l.length = n at *
    go_enter Tryd.func23, Tryd.ntmps23
    go_wp2
    go_ret2
    exact ⟨rfl, Below.refl _ _⟩
  · obtain ⟨g, o, rfl, _, h1⟩ := h.at (j := p) (by omega)
    have hx : (l.getD p []).length ≤ 140737488355328 := hs _ (by
      have hlt : p < l.length := by omega
      have : l.getD p [] = l[p] := by simp [List.getD, hlt]
      rw [this]; exact List.getElem_mem hlt)
    have C := hid (Number_any (l := l.getD p []) V hx)
    have hp' : ¬ (l.length : Int) ≤ (p : Int) := by omega
    have hlt : p < l.length := by omega
    cases hN : numW (l.getD p []) with
    | none =>
      have e1 : natA l p = .tuple #[.int .i64 0, .int .i64 163] := by unfold natA; rw [if_neg hp, hN]
      rw [e1]
      unfold numA at C
      rw [hN] at C
      simp only [Option.getD_none, Option.isSome_none] at C
      clear e1 hN h V hs hp hx
      generalize ByteArray.mk (l.getD p []).toArray = X at *
      generalize l.length = n at *
      go_enter Tryd.func23, Tryd.ntmps23
      go_wp2_with (go_at_call 26; refine C.out.mono ?_; rintro e w1 ⟨rfl, B1⟩; have BB := hid B1; clear B1)
      go_ret2
      exact ⟨rfl, BB.out⟩
    | some z =>
      have e1 : natA l p = .tuple #[.int .i64 (z : Int), .int .i64 0] := by unfold natA; rw [if_neg hp, hN]
      rw [e1]
      unfold numA at C
      rw [hN] at C
      simp only [Option.getD_some, Option.isSome_some] at C
      clear e1 hN h V hs hp hx
      generalize ByteArray.mk (l.getD p []).toArray = X at *
      generalize l.length = n at *
      go_enter Tryd.func23, Tryd.ntmps23
      go_wp2_with (go_at_call 26; refine C.out.mono ?_; rintro e w1 ⟨rfl, B1⟩; have BB := hid B1; clear B1)
      go_ret2
      exact ⟨rfl, BB.out⟩
end Go.Proofs.YtgmjjopfpenceabDoor
