import Derived.Test.YtdhkdniddjnigaaGreatDoorNum
namespace Go.Proofs.YtdhkdniddjnigaaGreatDoor
open Go.RowKit
set_option linter.unusedVariables false

theorem reads_one {w : World} (b : UInt8) : Reads (w.alloc (.cells #[.int .u8 (b.toNat : Int)] 5)) (.slice (some ⟨w.heap.size, 0, none⟩) 1 1) [b] := by
  refine ⟨some ⟨w.heap.size, 0, none⟩, 1, rfl, by simp, Or.inr ⟨w.heap.size, 0, rfl, by simp, fun j u hu => ?_⟩⟩
  match j with
  | 0 =>
    simp only [cellsB, List.map_cons, List.map_nil, List.getElem?_cons_zero, Option.some.injEq] at hu
    subst hu
    rw [cell_at (heap_alloc_new w _)]; rfl
  | j + 1 => simp [cellsB] at hu
theorem conv_one {w : World} (b : UInt8) : (convert 40 9 (.slice (some ⟨w.heap.size, 0, none⟩) 1 1)).run Tryz.prog (w.alloc (.cells #[.int .u8 (b.toNat : Int)] 5)) = .ok (.string ⟨#[b]⟩) (w.alloc (.cells #[.int .u8 (b.toNat : Int)] 5)) := by
  exact conv_string (reads_one b)

theorem conv_kept {w w' : World} {b : UInt8} (hb : Below (w.alloc (.cells #[.int .u8 (b.toNat : Int)] 5)).heap.size (w.alloc (.cells #[.int .u8 (b.toNat : Int)] 5)) w') : (convert 40 9 (.slice (some ⟨w.heap.size, 0, none⟩) 1 1)).run Tryz.prog w' = .ok (.string ⟨#[b]⟩) w' := by
  have : Reads (w.alloc (.cells #[.int .u8 (b.toNat : Int)] 5)) (.slice (some ⟨w.heap.size, 0, none⟩) 1 1) [b] := reads_one b
  exact conv_string (this.below hb)

set_option maxHeartbeats 1600000 in
set_option maxRecDepth 1000000 in
theorem Digits_any : ∀ (n : Nat) (w : World), n ≤ 9223372036854775807 → Calls Tryz.prog 44 #[.int .i64 (n : Int)] w fun e w' => e = .returned (.string ⟨(Lib.decDigits n).toArray⟩) ∧ Below w.heap.size w w' := by
  intro n
  induction n using Nat.strongRecOn with
  | _ n ih =>
    intro w hn
    by_cases h10 : n < 10
    · have e1 : Lib.decDigits n = [UInt8.ofNat (48 + n)] := by rw [Lib.decDigits, dif_pos h10]
      rw [e1]
      have cv := conv_one (w := w) (UInt8.ofNat (48 + n))
      rw [toNat_dig h10, show ((48 + n : Nat) : Int) = 48 + (n : Int) from by omega] at cv
      have h10' : (n : Int) < 10 := by omega
      have hw : IntKind.u8.wrap (48 + (n : Int)) = 48 + n := by
        have : ∀ x : Fin 10, IntKind.u8.wrap (48 + (x.val : Int)) = 48 + x.val := by decide +kernel
        exact this ⟨n, h10⟩
      have bel := hid (ba w (.cells #[.int .u8 (48 + (n : Int))] 5))
      clear ih e1
      generalize ByteArray.mk #[UInt8.ofNat (48 + n)] = X at *
      go_enter Tryz.func44, Tryz.ntmps44
      go_wp2
      go_ret
      exact ⟨rfl, bel.out⟩
    · have e1 : Lib.decDigits n = Lib.decDigits (n / 10) ++ [UInt8.ofNat (48 + n % 10)] := by rw [Lib.decDigits, dif_neg h10]
      rw [e1]
      have C := hid (fun W => ih (n / 10) (by omega) W (by omega))
      have hm : n % 10 < 10 := by omega
      have hrem : (n : Int) % 10 = ((n % 10 : Nat) : Int) := by omega
      have htm : (n : Int).tmod 10 = ((n % 10 : Nat) : Int) := by rw [Int.tmod_eq_emod_of_nonneg (by omega)]; omega
      have hdiv : (n : Int) / 10 = ((n / 10 : Nat) : Int) := by omega
      have h10' : ¬ (n : Int) < 10 := by omega
      have eX : Hid (∀ a b : List UInt8, (⟨(a ++ b).toArray⟩ : ByteArray) = ⟨a.toArray⟩ ++ ⟨b.toArray⟩) := hid (fun a b => by
        apply ByteArray.ext
        simp)
      have hqn : n / 10 ≤ n := by omega
      clear ih e1
      generalize n % 10 = r at *
      generalize n / 10 = q at *
      rw [eX.out]
      have cv := fun W : World => conv_one (w := W) (UInt8.ofNat (48 + r))
      have hk : Hid (∀ W W' : World, Below (W.alloc (.cells #[.int .u8 ((UInt8.ofNat (48 + r)).toNat : Int)] 5)).heap.size (W.alloc (.cells #[.int .u8 ((UInt8.ofNat (48 + r)).toNat : Int)] 5)) W' → (convert 40 9 (.slice (some ⟨W.heap.size, 0, none⟩) 1 1)).run Tryz.prog W' = .ok (.string ⟨#[UInt8.ofNat (48 + r)]⟩) W') := hid (fun W W' hb => conv_kept hb)
      rw [toNat_dig hm, show ((48 + r : Nat) : Int) = 48 + (r : Int) from by omega] at cv hk
      have hw : IntKind.u8.wrap (48 + (r : Int)) = 48 + (r : Int) := by
        have : ∀ x : Fin 10, IntKind.u8.wrap (48 + (x.val : Int)) = 48 + x.val := by decide +kernel
        exact this ⟨r, hm⟩
      have wq : IntKind.i64.wrap (q : Int) = q := by rw [IntKind.wrap_i64]; omega
      have wr1 : IntKind.i64.wrap (r : Int) = r := by rw [IntKind.wrap_i64]; omega
      have wr2 : IntKind.i64.wrap (48 + (r : Int)) = 48 + (r : Int) := by rw [IntKind.wrap_i64]; omega
      have e3 : (⟨[UInt8.ofNat (48 + r)].toArray⟩ : ByteArray) = ⟨#[UInt8.ofNat (48 + r)]⟩ := rfl
      rw [e3]
      have hsum : ¬ 9223372036854775807 < (⟨(Lib.decDigits q).toArray⟩ : ByteArray).size + (⟨#[UInt8.ofNat (48 + r)]⟩ : ByteArray).size := by
        have := digits_short (v := q) (by omega)
        simp [ByteArray.size]
        omega
      generalize ByteArray.mk #[UInt8.ofNat (48 + r)] = X at *
      generalize ByteArray.mk (Lib.decDigits q).toArray = Y at *
      clear eX e3
      have bel := hid (fun W : World => ba W (.cells #[.int .u8 (48 + (r : Int))] 5))
      have hk2 : Hid (∀ W' : World, Below (w.alloc (.cells #[.int .u8 (48 + (r : Int))] 5)).drew.heap.size (w.alloc (.cells #[.int .u8 (48 + (r : Int))] 5)).drew W' → (convert 40 9 (.slice (some ⟨w.heap.size, 0, none⟩) 1 1)).run Tryz.prog W' = .ok (.string X) W') := hid (fun W' hb => hk.out w.drew W' hb)
      have cvw : (convert 40 9 (.slice (some ⟨w.heap.size, 0, none⟩) 1 1)).run Tryz.prog (w.alloc (.cells #[.int .u8 (48 + (r : Int))] 5)).drew = .ok (.string X) (w.alloc (.cells #[.int .u8 (48 + (r : Int))] 5)).drew := cv w.drew
      have b0 := hid (bd w)
      go_enter Tryz.func44, Tryz.ntmps44
      go_wp2_with fail
      go_region_law (go_simp; go_at_call 44; refine (C.out _).mono ?_; rintro e w5 ⟨rfl, B5⟩; (try have cv2 := hk2.out _ B5); have BB := hid B5; clear B5)
      all_goals (go_wp2; go_ret; refine ⟨rfl, ?_⟩; first | exact b0.out.trans (BB.out.trans ((bel.out _).mono BB.out.size)) | exact b0.out.trans ((bel.out w.drew).trans (BB.out.mono (bel.out w.drew).size)))
end Go.Proofs.YtdhkdniddjnigaaGreatDoor
