import Derived.Test.YthnccpbgccmapabDoorSeal
namespace Go.Proofs.YthnccpbgccmapabDoor
open Go.RowKit
set_option linter.unusedVariables false

/-- What a head says of the length. -/
def lenP (b : List UInt8) : Nat := (b.getD 2 0).toNat + (b.getD 3 0).toNat * 256 + (b.getD 4 0).toNat * 65536
/-- The mark is not there. -/
def noMark (b : List UInt8) : Prop := (0 < b.length ∧ b.getD 0 0 ≠ 70) ∨ (1 < b.length ∧ b.getD 1 0 ≠ 76)
instance (b : List UInt8) : Decidable (noMark b) := by unfold noMark; infer_instance

/-- A head, read. -/
def headP (b : List UInt8) : Nat × Nat :=
  if noMark b then (0, 22)
  else if b.length < 9 then (0, 21)
  else if isSum ((b.drop 5).take 4) (sumN (b.take 5)) = false then (0, 24)
  else if 65536 < lenP b then (0, 20)
  else (lenP b, 0)

theorem Reads.sub {w : World} {g o n c : Nat} {l : List UInt8} (h : Reads w (.slice (some ⟨g, o, none⟩) n c) l) (p m c' : Nat) (hm : p + m ≤ l.length) (hc : m ≤ c') : Reads w (.slice (some ⟨g, o + p, none⟩) m c') ((l.drop p).take m) := by
  obtain ⟨ao, c0, e, hc0, hcase⟩ := h
  simp only [Value.slice.injEq] at e
  obtain ⟨rfl, rfl, rfl⟩ := e
  have e : ((l.drop p).take m).length = m := by simp; omega
  refine ⟨_, c', by rw [e], by omega, ?_⟩
  rcases hcase with ⟨rfl, _⟩ | ⟨g', o', e', hg, hcell⟩
  · exact Or.inl ⟨by simp, fun h => by cases h⟩
  · simp only [Option.some.injEq, Addr.mk.injEq, and_true] at e'
    obtain ⟨rfl, rfl⟩ := e'
    refine Or.inr ⟨g, o + p, rfl, hg, fun j u hu => ?_⟩
    have hj : j < m := by
      have := (List.getElem?_eq_some_iff.1 hu).1
      rw [cellsB_length, e] at this
      exact this
    rw [Nat.add_assoc]
    apply hcell (p + j) u
    rw [← hu]
    simp only [cellsB, List.getElem?_map, List.getElem?_take, hj, if_true, List.getElem?_drop]

theorem Reads.lt {w : World} {g o n c : Nat} {l : List UInt8} (h : Reads w (.slice (some ⟨g, o, none⟩) n c) l) (h0 : 0 < l.length) : g < w.heap.size := by
  obtain ⟨ao, c0, e, hc0, hcase⟩ := h
  rcases hcase with ⟨rfl, _⟩ | ⟨g', o', e', hg, hcell⟩
  · simp at h0
  · simp only [Value.slice.injEq] at e
    obtain ⟨rfl, _, _⟩ := e
    simp only [Option.some.injEq, Addr.mk.injEq, and_true] at e'
    obtain ⟨rfl, rfl⟩ := e'
    exact hg

theorem Reads.cap {w : World} {a : Option Addr} {n c : Nat} {l : List UInt8} (h : Reads w (.slice a n c) l) : n ≤ c ∧ n = l.length := by
  obtain ⟨ao, c0, e, hc0, hcase⟩ := h
  simp only [Value.slice.injEq] at e
  obtain ⟨rfl, rfl, rfl⟩ := e
  exact ⟨hc0, rfl⟩

theorem bdN (w : World) (q : Nat) : Below w.heap.size w (w.drewN q) := ⟨rfl, rfl, rfl, Nat.le_refl _, fun _ _ => rfl⟩

theorem mark_at {k : Nat} (hk : k < 2) (h : k < ByteArray.size { data := #[70, 76] }) : ((({ data := #[70, 76] } : ByteArray)[k]'h).toNat : Int) = ((([70, 76] : List UInt8).getD k 0).toNat : Int) := by
  have : k = 0 ∨ k = 1 := by omega
  rcases this with rfl | rfl <;> rfl

theorem i64_or_nat (a b : Nat) (ha : a < 2 ^ 62) (hb : b < 2 ^ 62) : bits .or .i64 (a : Int) (b : Int) = ((a ||| b : Nat) : Int) := by
  have hx : a ||| b < 2 ^ 62 := Nat.or_lt_two_pow ha hb
  have h1 : (BitVec.ofInt 64 (a : Int)).toNat = a := by
    rw [BitVec.ofInt_natCast, BitVec.toNat_ofNat]; exact Nat.mod_eq_of_lt (by omega)
  have h2 : (BitVec.ofInt 64 (b : Int)).toNat = b := by
    rw [BitVec.ofInt_natCast, BitVec.toNat_ofNat]; exact Nat.mod_eq_of_lt (by omega)
  show IntKind.i64.wrap ((BitVec.ofInt 64 (a : Int) ||| BitVec.ofInt 64 (b : Int)).toNat : Int) = _
  rw [BitVec.toNat_or, h1, h2]
  simp [IntKind.wrap, IntKind.bits, IntKind.signed]
  omega

theorem or_add (a c j : Nat) (ha : a < 256 ^ j) : a ||| c * 256 ^ j = a + c * 256 ^ j := by
  have e : 256 ^ j = 2 ^ (8 * j) := by rw [Nat.pow_mul]
  rw [e] at ha ⊢
  rw [Nat.or_comm, Nat.mul_comm, ← Nat.two_pow_add_eq_or_of_lt ha, Nat.add_comm]

/-- The length, as far as it was read. -/
def lenJ (b : List UInt8) : Nat → Nat
  | 0 => 0
  | j + 1 => lenJ b j + (b.getD (j + 2) 0).toNat * 256 ^ j
theorem lenJ_lt (b : List UInt8) (j : Nat) : lenJ b j < 256 ^ j := by
  induction j with
  | zero => simp [lenJ]
  | succ j ih =>
    have := (b.getD (j + 2) 0).toNat_lt
    rw [lenJ, Nat.pow_succ]
    have h2 : (b.getD (j + 2) 0).toNat * 256 ^ j ≤ 255 * 256 ^ j := Nat.mul_le_mul_right _ (by omega)
    omega
theorem lenJ_three (b : List UInt8) : lenJ b 3 = lenP b := by simp [lenJ, lenP]

theorem lenJ_or (b : List UInt8) (j : Nat) (hj : j < 3) : bits .or .i64 (lenJ b j : Int) (((b.getD (j + 2) 0).toNat * 256 ^ j : Nat) : Int) = (lenJ b (j + 1) : Int) := by
  have h1 := lenJ_lt b j
  have h3 : 256 ^ j ≤ 65536 := by
    have : j = 0 ∨ j = 1 ∨ j = 2 := by omega
    rcases this with rfl | rfl | rfl <;> decide
  have h2 := (b.getD (j + 2) 0).toNat_lt
  have h4 : (b.getD (j + 2) 0).toNat * 256 ^ j ≤ 256 * 65536 := Nat.mul_le_mul (by omega) h3
  rw [i64_or_nat _ _ (by omega) (by omega), or_add _ _ _ h1, lenJ]

theorem head_mark {l : List UInt8} (h2 : 2 < l.length) {k : Nat} (hk : k < 2) (h : l.getD k 0 ≠ ([70, 76] : List UInt8).getD k 0) : headP l = (0, 22) := by
  have : noMark l := by
    have : k = 0 ∨ k = 1 := by omega
    rcases this with rfl | rfl
    · exact Or.inl ⟨by omega, h⟩
    · exact Or.inr ⟨by omega, h⟩
  unfold headP
  rw [if_pos this]

theorem has_mark {l : List UInt8} (h : ∀ j, j < 2 → l.getD j 0 = ([70, 76] : List UInt8).getD j 0) : ¬ noMark l := by
  rintro (⟨_, h1⟩ | ⟨_, h1⟩)
  · exact h1 (h 0 (by omega))
  · exact h1 (h 1 (by omega))

set_option maxHeartbeats 3200000 in
set_option maxRecDepth 1000000 in
theorem openHead_long {w : World} {s : Value} {l : List UInt8} (hT : Tab w) (h : Reads w s l) (h2 : 2 < l.length) (hlen : l.length ≤ 140737488351232) :
    Calls Tryd.prog 33 #[s] w fun e w' => e = .returned (.tuple #[.int .i64 ((headP l).1 : Int), .int .i64 ((headP l).2 : Int)]) ∧ Below w.heap.size w w' := by
  obtain ⟨ao, c, hf⟩ := h.form
  subst hf
  have HH := hid h
  have HT := hid hT
  have hmin : (2 : Int) < (l.length : Int) := by omega
  obtain ⟨g, o, rfl, _⟩ := h.at_u8 0 (by omega)
  have hcap := h.cap.1
  clear h hT
  go_enter Tryd.func33, Tryd.ntmps33
  go_wp2
  go_loopw [11] (fun iv wr => ∃ (k q : Nat), k ≤ 2 ∧ iv = .int .i64 (k : Int) ∧ Hid (∀ j, j < k → l.getD j 0 = ([70, 76] : List UInt8).getD j 0) ∧ w.drewN q = wr) (fun iv _ => 2 - (intOf iv).toNat)
  case atStart => exact ⟨0, 0, by omega, rfl, fun j hj => by omega, rfl⟩
  case round =>
    obtain ⟨k, q, hk, rfl, hall, rfl⟩ := hrel
    by_cases hlt : k < 2
    · obtain ⟨g', o', e', h1⟩ := HH.out.at_u8 k (by omega)
      simp only [Option.some.injEq, Addr.mk.injEq, and_true] at e'
      obtain ⟨rfl, rfl⟩ := e'
      obtain ⟨x, hxx⟩ : ∃ x, x = (l.getD k 0).toNat := ⟨_, rfl⟩
      rw [← hxx] at h1
      have HX := hid hxx
      clear hxx
      go_wp2_with fail
      go_quiet (fail)
      rw [mark_at hlt]
      obtain ⟨y, hyy⟩ : ∃ y, y = (([70, 76] : List UInt8).getD k 0).toNat := ⟨_, rfl⟩
      rw [← hyy]
      have HY := hid hyy
      clear hyy
      by_cases hxy : x = y
      · have hb : ((x : Int) != (y : Int)) = false := by simp [hxy]
        have hxy' := hid hxy
        clear hxy
        go_wp2
        go_roundw
        case rel => exact ⟨k + 1, q + nq, by omega, by go_num, fun j hj => by
          by_cases hjk : j < k
          · exact hall.out j hjk
          · have : j = k := by omega
            subst this
            exact u8_eq (by rw [← HX.out, ← HY.out]; exact hxy'.out), by simp [World.drewN]⟩
        case measure => simp [intOf]; omega
      · have hb : ((x : Int) != (y : Int)) = true := by simp; omega
        have hfin := hid (head_mark h2 hlt (u8_ne (by rw [← HX.out, ← HY.out]; exact hxy)))
        clear hxy
        go_wp2
        go_ret2
        exact ⟨by rw [hfin.out]; rfl, ⟨rfl, rfl, rfl, Nat.le_refl _, fun _ _ => rfl⟩⟩
    · have hnm := hid (has_mark (fun j hj => hall.out j (by omega)))
      clear hall
      by_cases h9 : l.length < 9
      · have hfin := hid (show headP l = (0, 21) by unfold headP; rw [if_neg hnm.out, if_pos h9])
        go_wp2
        go_ret2
        exact ⟨by rw [hfin.out]; rfl, bdN _ _⟩
      · go_wp2_with fail
        refine (cut_any g o l.length c 0 5 (by omega) hcap (by omega)).mono ?_
        rintro e w2 ⟨a1, rfl, ha1, hb2⟩
        have A1 := hid (ha1 (by omega))
        have B2 := hid (show Below w.heap.size w w2 from (bdN w q).trans hb2)
        clear ha1 hb2
        have e1 : a1 = ⟨g, o, none⟩ := by simpa using A1.out
        subst e1
        have B3 := hid (B2.out.alloc B2.out.size (.cells #[.slice (some ⟨g, o, none⟩) 5 5, .slice (some ⟨g, o + 5, none⟩) 4 4] 62))
        go_wp2_with fail
        refine (isSigned_any (l := l.take 5) (t := (l.drop 5).take 4) (HT.out.below B3.out) (by have := (HH.out.below B3.out).sub 0 5 5 (by omega) (Nat.le_refl _); simpa using this) ((HH.out.below B3.out).sub 5 4 4 (by omega) (Nat.le_refl _)) (by simp; omega) (by simp; omega)).mono ?_
        rintro e w4 ⟨rfl, hb4⟩
        have B4 := hid (show Below w.heap.size w w4 from B3.out.trans (hb4.mono B3.out.size))
        have c5 : w4.cell? ⟨w2.heap.size, 0, none⟩ = some (.slice (some ⟨g, o, none⟩) 5 5) := by
          rw [hb4.cell (by simp)]
          simp
        clear hb4 B3 A1
        cases hS : isSum ((l.drop 5).take 4) (sumN (l.take 5)) with
        | false =>
          have hfin := hid (show headP l = (0, 24) by unfold headP; rw [if_neg hnm.out, if_neg h9, if_pos hS])
          clear hS
          go_wp2
          go_ret2
          exact ⟨by rw [hfin.out]; rfl, B4.out⟩
        | true =>
          have hfin := hid (show headP l = if 65536 < lenP l then (0, 20) else (lenP l, 0) by unfold headP; rw [if_neg hnm.out, if_neg h9, if_neg (by rw [hS]; simp)])
          clear hS
          go_wp2
          go_loopw [6, 7] (fun sv iv wr => ∃ j : Nat, j ≤ 3 ∧ iv = .int .i64 ((j + 2 : Nat) : Int) ∧ sv = .int .i64 (lenJ l j : Int) ∧ w4 = wr) (fun _ iv _ => 5 - (intOf iv).toNat)
          case atStart => exact ⟨0, by omega, rfl, rfl, rfl⟩
          case round =>
            obtain ⟨j, hj, rfl, rfl, rfl⟩ := hrel
            by_cases hlt3 : j < 3
            · obtain ⟨g', o', e', h1⟩ := (HH.out.below B4.out).at_u8 (j + 2) (by omega)
              simp only [Option.some.injEq, Addr.mk.injEq, and_true] at e'
              obtain ⟨rfl, rfl⟩ := e'
              have hor := lenJ_or l j hlt3
              have hxl := (l.getD (j + 2) 0).toNat_lt
              generalize (l.getD (j + 2) 0).toNat = x at *
              generalize lenJ l j = y at *
              generalize hz : lenJ l (j + 1) = z at *
              have HZ := hid hz
              clear hz
              go_wp2_with fail
              refine (sizeBits_any x j hxl hlt3).mono ?_
              rintro e w5 ⟨rfl, rfl⟩
              generalize x * 256 ^ j = y2 at *
              go_wp2
              go_roundw
              case rel => exact ⟨j + 1, by omega, by go_num, by rw [HZ.out], by trivial⟩
              case measure => simp [intOf]; omega
            · have hj3 : j = 3 := by omega
              have e3 : lenJ l j = lenP l := by rw [hj3, lenJ_three]
              rw [e3]
              by_cases hbig : 65536 < lenP l
              · have hf := hid (hfin.out.trans (if_pos hbig))
                clear e3 hj3
                generalize lenP l = y at *
                go_wp2
                go_ret2
                exact ⟨by rw [hf.out]; rfl, B4.out⟩
              · have hf := hid (hfin.out.trans (if_neg hbig))
                clear e3 hj3
                generalize lenP l = y at *
                go_wp2
                go_ret2
                exact ⟨by rw [hf.out]; rfl, B4.out⟩

set_option maxHeartbeats 3200000 in
set_option maxRecDepth 1000000 in
theorem openHead_short {w : World} {s : Value} {l : List UInt8} (h : Reads w s l) (h2 : l.length ≤ 2) :
    Calls Tryd.prog 33 #[s] w fun e w' => e = .returned (.tuple #[.int .i64 ((headP l).1 : Int), .int .i64 ((headP l).2 : Int)]) ∧ Below w.heap.size w w' := by
  obtain ⟨ao, c, hf⟩ := h.form
  subst hf
  have HH := hid h
  have hmin : (l.length : Int) ≤ 2 := by omega
  clear h
  go_enter Tryd.func33, Tryd.ntmps33
  go_wp2
  go_loopw [11] (fun iv wr => ∃ (k q : Nat), k ≤ l.length ∧ iv = .int .i64 (k : Int) ∧ Hid (∀ j, j < k → l.getD j 0 = ([70, 76] : List UInt8).getD j 0) ∧ w.drewN q = wr) (fun iv _ => l.length - (intOf iv).toNat)
  case atStart => exact ⟨0, 0, by omega, rfl, fun j hj => by omega, rfl⟩
  case round =>
    obtain ⟨k, q, hk, rfl, hall, rfl⟩ := hrel
    by_cases hlt : k < l.length
    · obtain ⟨g, o, rfl, h1⟩ := HH.out.at_u8 k hlt
      obtain ⟨x, hxx⟩ : ∃ x, x = (l.getD k 0).toNat := ⟨_, rfl⟩
      rw [← hxx] at h1
      have HX := hid hxx
      clear hxx
      have hk2 : k < 2 := by omega
      have hk3 : (k : Int) < 2 := by omega
      have hk4 : k < ByteArray.size { data := #[70, 76] } := hk2
      go_wp2_with fail
      go_quiet (fail)
      rw [mark_at hk2]
      obtain ⟨y, hyy⟩ : ∃ y, y = (([70, 76] : List UInt8).getD k 0).toNat := ⟨_, rfl⟩
      rw [← hyy]
      have HY := hid hyy
      clear hyy
      by_cases hxy : x = y
      · have hb : ((x : Int) != (y : Int)) = false := by simp [hxy]
        have hxy' := hid hxy
        clear hxy
        go_wp2
        go_roundw
        case rel => exact ⟨k + 1, q + nq, by omega, by go_num, fun j hj => by
          by_cases hjk : j < k
          · exact hall.out j hjk
          · have : j = k := by omega
            subst this
            exact u8_eq (by rw [← HX.out, ← HY.out]; exact hxy'.out), by simp [World.drewN]⟩
        case measure => simp [intOf]; omega
      · have hb : ((x : Int) != (y : Int)) = true := by simp; omega
        have hfin := hid (show headP l = (0, 22) from by
          have hne := u8_ne (show ¬ (l.getD k 0).toNat = (([70, 76] : List UInt8).getD k 0).toNat by rw [← HX.out, ← HY.out]; exact hxy)
          have : noMark l := by
            have : k = 0 ∨ k = 1 := by omega
            rcases this with rfl | rfl
            · exact Or.inl ⟨by omega, hne⟩
            · exact Or.inr ⟨by omega, hne⟩
          unfold headP
          rw [if_pos this])
        clear hxy
        go_wp2
        go_ret2
        exact ⟨by rw [hfin.out]; rfl, ⟨rfl, rfl, rfl, Nat.le_refl _, fun _ _ => rfl⟩⟩
    · have hfin := hid (show headP l = (0, 21) by
        have : ¬ noMark l := by
          rintro (⟨h0, h1⟩ | ⟨h0, h1⟩)
          · exact h1 (hall.out 0 (by omega))
          · exact h1 (hall.out 1 (by omega))
        unfold headP
        rw [if_neg this, if_pos (by omega)])
      clear hall
      have h9 : l.length < 9 := by omega
      go_wp2
      go_ret2
      exact ⟨by rw [hfin.out]; rfl, bdN _ _⟩

theorem openHead_any {w : World} {s : Value} {l : List UInt8} (hT : Tab w) (h : Reads w s l) (hlen : l.length ≤ 140737488351232) :
    Calls Tryd.prog 33 #[s] w fun e w' => e = .returned (.tuple #[.int .i64 ((headP l).1 : Int), .int .i64 ((headP l).2 : Int)]) ∧ Below w.heap.size w w' := by
  by_cases h2 : 2 < l.length
  · exact openHead_long hT h h2 hlen
  · exact openHead_short h (by omega)
end Go.Proofs.YthnccpbgccmapabDoor
