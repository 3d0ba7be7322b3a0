import Derived.Test.YtdndfbgjaadbmaaLaid
import Derived.Test.YtdndfbgjaadbmaaPlain
import Derived.Deep.RegionWith
import Derived.Deep.DrawnRows
namespace Go.Proofs.Ytdndfbgjaadbmaa
open Go.RowKit
set_option linter.unusedVariables false
attribute [local go_sem ↓] Go.wp_at_zero Go.wp_at_succ

theorem signedR_enc (n : Int) (h1 : -9223372036854775808 ≤ n) (h2 : n < 9223372036854775808) (rest : List UInt8) : signedR (enc 9 (foldN n) ++ rest) = (n, (enc 9 (foldN n)).length, 0) := by
  have h := look_enc 10 1 (by omega) rest 9 0 (foldN n) 0 (by omega) (by omega) (by rw [lim10]; exact foldN_lt n h1 h2) (by omega)
  unfold signedR
  rw [h]
  simp only [Nat.pow_zero, Nat.mul_one, Nat.zero_add]
  rw [unfold_fold]
  rfl

theorem signedR_cut (n : Int) (h1 : -9223372036854775808 ≤ n) (h2 : n < 9223372036854775808) (m : Nat) (hm : m < (enc 9 (foldN n)).length) : signedR ((enc 9 (foldN n)).take m) = (0, 0, 10) := by
  have h := look_cut 10 1 (by omega) 9 0 (foldN n) 0 m (by omega) (by omega) (by rw [lim10]; exact foldN_lt n h1 h2) hm
  unfold signedR
  rw [h]
  rfl

theorem truthR_enc (v : Bool) (rest : List UInt8) : truthR ([if v then 1 else 0] ++ rest) = (v, 1, 0) := by cases v <;> rfl

theorem Rd.boxed {w : World} {b : Nat} {D : Option Nat} {rv : Value} {rs : List UInt8} {place : Nat} {err : Int} (h : Rd w b D rv rs place err) (cs : Array Value) : Rd (w.alloc (.cells cs 35)).drew b D rv rs place err :=
  (h.below ((Below.refl _ _).alloc (Nat.le_refl _) (.cells cs 35))).drew

/-- A box of the caller's stays. -/
theorem Only.box {w w1 : World} {b : Nat} {cs : Array Value} (h : Only b (w.alloc (.cells cs 35)).drew w1) (hb : b < w.heap.size) (j : Nat) : w1.cell? ⟨w.heap.size, j, none⟩ = cs[j]? := by
  have e : w1.heap[w.heap.size]? = some (.cells cs 35) := by
    rw [h.block w.heap.size (by show w.heap.size < (w.alloc _).heap.size; simp) (by omega)]
    exact heap_alloc_new w _
  rw [cell_at e]

theorem Only.unboxed {w w1 : World} {b : Nat} {cs : Array Value} (h : Only b (w.alloc (.cells cs 35)).drew w1) : Only b w w1 :=
  (Only.alloc b w _).trans ((Only.drew b _).trans h)

set_option maxHeartbeats 3200000 in
set_option maxRecDepth 1000000 in
theorem back_num {w : World} {b : Nat} {D : Option Nat} {rv : Value} {rest : List UInt8} {place : Nat} (n : Int) (v : Bool) (s : ByteArray) (h0 : 0 ≤ n) (h1 : n < 9223372036854775808) (h : Rd w b D rv (enc 9 n.toNat ++ rest) place 0) (hp : place + (enc 9 n.toNat ++ rest).length ≤ 140737488355328) :
    Calls Try.prog 29 #[.pointer (some ⟨b, 0, none⟩), .agg #[.int .i64 1, .int .i64 n, .bool v, .string s]] w fun e w' => e = .returned (.bool true) ∧ (∃ rv', Rd w' b D rv' rest (place + (enc 9 n.toNat).length) 0) ∧ Only b w w' := by
  have hlt := h.lt
  have H1 := hid (h.boxed #[.int .i64 1, .int .i64 n, .bool v, .string s])
  have eN : numR (enc 9 n.toNat ++ rest) n 13 = (n, (enc 9 n.toNat).length, 0) := by
    have := numR_enc n.toNat (by omega) rest n 13 (by omega)
    rw [this]
    simp only [Prod.mk.injEq, and_true]
    omega
  have eA : aft (enc 9 n.toNat ++ rest) place 0 (enc 9 n.toNat).length 0 = (rest, place + (enc 9 n.toNat).length, 0) := by simp [aft]
  have HC := hid (Num_any H1.out hp n)
  rw [eN, eA] at HC
  clear h H1 eN eA
  go_enter Try.func29, Try.ntmps29
  go_wp2
  go_region_with (go_at_call 33; refine (Calls.mono HC.out ?_); rintro e w1 ⟨rfl, h2, h3⟩; have q1 : w1.cell? ⟨w.heap.size, 1, none⟩ = some (.int .i64 n) := h3.box hlt 1; have H2 := hid h2; have H3 := hid h3.unboxed; clear h2 h3)
  all_goals go_wp2
  all_goals go_ret
  all_goals exact ⟨rfl, H2.out, H3.out⟩

set_option maxHeartbeats 3200000 in
set_option maxRecDepth 1000000 in
theorem back_signed {w : World} {b : Nat} {D : Option Nat} {rv : Value} {rest : List UInt8} {place : Nat} (n : Int) (v : Bool) (s : ByteArray) (h0 : -9223372036854775808 ≤ n) (h1 : n < 9223372036854775808) (h : Rd w b D rv (enc 9 (foldN n) ++ rest) place 0) (hp : place + (enc 9 (foldN n) ++ rest).length ≤ 140737488355328) :
    Calls Try.prog 29 #[.pointer (some ⟨b, 0, none⟩), .agg #[.int .i64 2, .int .i64 n, .bool v, .string s]] w fun e w' => e = .returned (.bool true) ∧ (∃ rv', Rd w' b D rv' rest (place + (enc 9 (foldN n)).length) 0) ∧ Only b w w' := by
  have hlt := h.lt
  have H1 := hid (h.boxed #[.int .i64 2, .int .i64 n, .bool v, .string s])
  have eA : aft (enc 9 (foldN n) ++ rest) place 0 (enc 9 (foldN n)).length 0 = (rest, place + (enc 9 (foldN n)).length, 0) := by simp [aft]
  have HC := hid (Signed_any H1.out hp)
  rw [signedR_enc n h0 h1, eA] at HC
  clear h H1 eA h0 h1
  go_enter Try.func29, Try.ntmps29
  go_wp2
  go_region_with (go_at_call 37; refine (Calls.mono HC.out ?_); rintro e w1 ⟨rfl, h2, h3⟩; have q1 : w1.cell? ⟨w.heap.size, 1, none⟩ = some (.int .i64 n) := h3.box hlt 1; have H2 := hid h2; have H3 := hid h3.unboxed; clear h2 h3)
  all_goals go_wp2
  all_goals go_ret
  all_goals exact ⟨rfl, H2.out, H3.out⟩

set_option maxHeartbeats 3200000 in
set_option maxRecDepth 1000000 in
theorem back_bool {w : World} {b : Nat} {D : Option Nat} {rv : Value} {rest : List UInt8} {place : Nat} (n : Int) (v : Bool) (s : ByteArray) (h : Rd w b D rv ([if v then 1 else 0] ++ rest) place 0) (hp : place + ([if v then 1 else 0] ++ rest).length ≤ 140737488355328) :
    Calls Try.prog 29 #[.pointer (some ⟨b, 0, none⟩), .agg #[.int .i64 3, .int .i64 n, .bool v, .string s]] w fun e w' => e = .returned (.bool true) ∧ (∃ rv', Rd w' b D rv' rest (place + 1) 0) ∧ Only b w w' := by
  have hlt := h.lt
  have H1 := hid (h.boxed #[.int .i64 3, .int .i64 n, .bool v, .string s])
  have eA : aft ([if v then 1 else 0] ++ rest) place 0 1 0 = (rest, place + 1, 0) := by simp [aft]
  have HC := hid (Bool_any H1.out hp)
  rw [truthR_enc v, eA] at HC
  clear h H1 eA hp
  go_enter Try.func29, Try.ntmps29
  go_wp2
  go_region_with (go_at_call 49; refine (Calls.mono HC.out ?_); rintro e w1 ⟨rfl, h2, h3⟩; have q1 : w1.cell? ⟨w.heap.size, 2, none⟩ = some (.bool v) := h3.box hlt 2; have H2 := hid h2; have H3 := hid h3.unboxed; clear h2 h3)
  all_goals go_wp2
  all_goals go_ret
  all_goals exact ⟨rfl, H2.out, H3.out⟩

theorem strB_self (s : ByteArray) : strB s.data.toList = s := by cases s; simp [strB]

set_option maxHeartbeats 3200000 in
set_option maxRecDepth 1000000 in
theorem back_text {w : World} {b : Nat} {D : Option Nat} {rv : Value} {rest : List UInt8} {place : Nat} (n : Int) (v : Bool) (s : ByteArray) (hs : s.size ≤ 140737488355328) (h : Rd w b D rv (enc 9 s.size ++ (s.data.toList ++ rest)) place 0) (hp : place + (enc 9 s.size ++ (s.data.toList ++ rest)).length ≤ 140737488355328) :
    Calls Try.prog 29 #[.pointer (some ⟨b, 0, none⟩), .agg #[.int .i64 4, .int .i64 n, .bool v, .string s]] w fun e w' => e = .returned (.bool true) ∧ (∃ rv', Rd w' b D rv' rest (place + (enc 9 s.size ++ s.data.toList).length) 0) ∧ Only b w w' := by
  have hlt := h.lt
  have H1 := hid (h.boxed #[.int .i64 4, .int .i64 n, .bool v, .string s])
  have eR : runR (enc 9 s.size ++ (s.data.toList ++ rest)) (s.size : Int) = (s.data.toList, (enc 9 s.size).length + s.data.toList.length, 0) := runR_enc s.data.toList rest (by have : s.data.toList.length = s.size := rfl; omega) _ (by have : s.data.toList.length = s.size := rfl; omega)
  have eA : aft (enc 9 s.size ++ (s.data.toList ++ rest)) place 0 ((enc 9 s.size).length + s.data.toList.length) 0 = (rest, place + (enc 9 s.size ++ s.data.toList).length, 0) := by
    simp only [aft, if_true, List.length_append]
    rw [← List.append_assoc, List.drop_left' (by simp)]
  have HC := hid (Text_any H1.out hp (s.size : Int))
  rw [eR, eA, strB_self] at HC
  clear h H1 eR eA hp
  go_enter Try.func29, Try.ntmps29
  go_wp2
  go_region_with (go_at_call 51; refine (Calls.mono HC.out ?_); rintro e w1 ⟨rfl, h2, h3⟩; have q1 : w1.cell? ⟨w.heap.size, 3, none⟩ = some (.string s) := h3.box hlt 3; have H2 := hid h2; have H3 := hid h3.unboxed; clear h2 h3)
  all_goals go_wp2
  all_goals go_ret
  all_goals exact ⟨rfl, H2.out, H3.out⟩

set_option maxHeartbeats 3200000 in
set_option maxRecDepth 1000000 in
theorem back_bytes {w : World} {b : Nat} {D : Option Nat} {rv : Value} {rest : List UInt8} {place : Nat} (n : Int) (v : Bool) (s : ByteArray) (hs : s.size ≤ 140737488355328) (h : Rd w b D rv (enc 9 s.size ++ (s.data.toList ++ rest)) place 0) (hp : place + (enc 9 s.size ++ (s.data.toList ++ rest)).length ≤ 140737488355328) :
    Calls Try.prog 29 #[.pointer (some ⟨b, 0, none⟩), .agg #[.int .i64 5, .int .i64 n, .bool v, .string s]] w fun e w' => e = .returned (.bool true) ∧ (∃ rv', Rd w' b D rv' rest (place + (enc 9 s.size ++ s.data.toList).length) 0) ∧ Only b w w' := by
  have hlt := h.lt
  have H1 := hid (h.below ((Below.refl _ _).alloc (Nat.le_refl _) (.cells #[.int .i64 5, .int .i64 n, .bool v, .string s] 35)))
  have eR : runR (enc 9 s.size ++ (s.data.toList ++ rest)) 9223372036854775807 = (s.data.toList, (enc 9 s.size).length + s.data.toList.length, 0) := runR_enc s.data.toList rest (by have : s.data.toList.length = s.size := rfl; omega) _ (by have : s.data.toList.length = s.size := rfl; omega)
  have eA : aft (enc 9 s.size ++ (s.data.toList ++ rest)) place 0 ((enc 9 s.size).length + s.data.toList.length) 0 = (rest, place + (enc 9 s.size ++ s.data.toList).length, 0) := by
    simp only [aft, if_true, List.length_append]
    rw [← List.append_assoc, List.drop_left' (by simp)]
  have HC := hid (Bytes_any H1.out hp 9223372036854775807)
  rw [eR, eA] at HC
  clear h H1 eR eA hp
  go_enter Try.func29, Try.ntmps29
  go_wp2_with fail
  refine (Calls.mono HC.out ?_)
  rintro e w1 ⟨s1, rfl, h1, h2, h3⟩
  have hcv := conv_string (Reads.of_owns h1)
  rw [strB_self] at hcv
  obtain ⟨ao, c, hf⟩ := owns_form h1
  generalize s.data.toList.length = L at hf
  subst hf
  have q1 : w1.cell? ⟨w.heap.size, 3, none⟩ = some (.string s) := by
    have e : w1.heap[w.heap.size]? = some (.cells #[.int .i64 5, .int .i64 n, .bool v, .string s] 35) := by
      rw [h3.block w.heap.size (by simp) (by omega)]
      exact heap_alloc_new w _
    rw [cell_at e]; rfl
  have H2 := hid h2
  have H3 := hid ((Only.alloc b w _).trans h3)
  clear h1 h2 h3 HC
  go_wp2
  go_ret
  exact ⟨rfl, H2.out, H3.out⟩

/-- One item that was written is read back. -/
theorem back_any {w : World} {b : Nat} {D : Option Nat} {rv : Value} {rest : List UInt8} {place : Nat} (y : It) (hy : y.Ok) (hk : 1 ≤ y.kind ∧ y.kind ≤ 5) (hkn : y.kind = 1 → 0 ≤ y.n) (hs : y.s.size ≤ 140737488355328) (h : Rd w b D rv (encI y ++ rest) place 0) (hp : place + (encI y ++ rest).length ≤ 140737488355328) :
    Calls Try.prog 29 #[.pointer (some ⟨b, 0, none⟩), .agg #[.int .i64 y.kind, .int .i64 y.n, .bool y.v, .string y.s]] w fun e w' => e = .returned (.bool true) ∧ (∃ rv', Rd w' b D rv' rest (place + (encI y).length) 0) ∧ Only b w w' := by
  obtain ⟨k, n, v, s⟩ := y
  obtain ⟨_, hn1, hn2⟩ := hy
  simp only at hk hkn hs hn1 hn2 ⊢
  rcases (show k = 1 ∨ k = 2 ∨ k = 3 ∨ k = 4 ∨ k = 5 by omega) with rfl | rfl | rfl | rfl | rfl
  · exact back_num n v s (hkn rfl) hn2 h hp
  · exact back_signed n v s hn1 hn2 h hp
  · exact back_bool n v s h hp
  · have e : encI ⟨4, n, v, s⟩ = enc 9 s.size ++ s.data.toList := rfl
    rw [e] at h hp ⊢
    rw [List.append_assoc] at h hp
    exact back_text n v s hs h hp
  · have e : encI ⟨5, n, v, s⟩ = enc 9 s.size ++ s.data.toList := rfl
    rw [e] at h hp ⊢
    rw [List.append_assoc] at h hp
    exact back_bytes n v s hs h hp

end Go.Proofs.Ytdndfbgjaadbmaa
