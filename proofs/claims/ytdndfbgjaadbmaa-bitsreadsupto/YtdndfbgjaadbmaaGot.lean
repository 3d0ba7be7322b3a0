import Derived.Test.YtdndfbgjaadbmaaBack
namespace Go.Proofs.Ytdndfbgjaadbmaa
open Go.RowKit
set_option linter.unusedVariables false

/-- An item read by its kind. -/
def gotR (kind : Int) (rs : List UInt8) : It × Nat × Int :=
  if kind = 1 then (⟨1, (numR rs 9223372036854775807 13).1, false, ⟨#[]⟩⟩, (numR rs 9223372036854775807 13).2)
  else if kind = 2 then (⟨2, (signedR rs).1, false, ⟨#[]⟩⟩, (signedR rs).2)
  else if kind = 3 then (⟨3, 0, (truthR rs).1, ⟨#[]⟩⟩, (truthR rs).2)
  else (⟨kind, 0, false, strB (runR rs 9223372036854775807).1⟩, (runR rs 9223372036854775807).2)

/-- What the two blocks of the call hold, behind a reading. -/
theorem got_blocks {w w3 : World} {b : Nat} {cs ds : Array Value} (h : Only b ((w.alloc (.cells cs 35)).alloc (.cells ds 35)) w3) (hb : b < w.heap.size) :
    w3.heap[w.heap.size]? = some (.cells cs 35) ∧ w3.heap[w.heap.size + 1]? = some (.cells ds 35) := by
  constructor
  · rw [h.block w.heap.size (by simp; omega) (by omega), Below.heap_alloc _ _ _ (by simp)]
    exact heap_alloc_new w _
  · rw [h.block (w.heap.size + 1) (by simp) (by omega)]
    have := heap_alloc_new (w.alloc (.cells cs 35)) (.cells ds 35)
    simpa using this

/-- Stores into blocks of one's own are not the reader's. -/
theorem Rd.stored {w : World} {b : Nat} {D : Option Nat} {rv : Value} {rs : List UInt8} {place : Nat} {err : Int} (h : Rd w b D rv rs place err) {T : Nat} (hb : b < T) (hD : ∀ k, D = some k → k < T) (j : Nat) (u : Value) : Rd (w.setCell ⟨T, j, none⟩ u) b D rv rs place err :=
  h.kept (by simp [World.setCell]) (Below.heap_setCell _ _ _ _ (by simp only; omega)) (fun k hk => Below.heap_setCell _ _ _ _ (by have := hD k (h.own k hk); simp only; omega))

theorem Below.stored {w0 w : World} (h : Below w0.heap.size w0 w) {T : Nat} (hT : w0.heap.size ≤ T) (j : Nat) (u : Value) : Below w0.heap.size w0 (w.setCell ⟨T, j, none⟩ u) := h.setCell hT u

theorem Only.stored {b : Nat} {w0 w : World} (h : Only b w0 w) {T : Nat} (hT : w0.heap.size ≤ T) (j : Nat) (u : Value) : Only b w0 (w.setCell ⟨T, j, none⟩ u) :=
  ⟨h.os, h.tape, h.output, by simpa [World.setCell] using h.size, fun k hk hkb => by rw [Below.heap_setCell _ _ _ _ (by simp only; omega)]; exact h.block k hk hkb⟩

set_option maxHeartbeats 3200000 in
set_option maxRecDepth 1000000 in
theorem got_num {w : World} {b : Nat} {D : Option Nat} {rv : Value} {rs : List UInt8} {place : Nat} {err : Int} (h : Rd w b D rv rs place err) (hp : place + rs.length ≤ 140737488355328) :
    Calls Try.prog 32 #[.pointer (some ⟨b, 0, none⟩), .int .i64 1] w fun e w' => e = .returned (.agg #[.int .i64 1, .int .i64 (numR rs 9223372036854775807 13).1, .bool false, .string ⟨#[]⟩]) ∧ (∃ rv', Rd w' b D rv' (aft rs place err (numR rs 9223372036854775807 13).2.1 (numR rs 9223372036854775807 13).2.2).1 (aft rs place err (numR rs 9223372036854775807 13).2.1 (numR rs 9223372036854775807 13).2.2).2.1 (aft rs place err (numR rs 9223372036854775807 13).2.1 (numR rs 9223372036854775807 13).2.2).2.2) ∧ Only b w w' := by
  have hlt := h.lt
  have H2 := hid ((h.below ((Below.refl _ _).alloc (Nat.le_refl _) (.cells #[.int .i64 0, .int .i64 0, .bool false, .string ⟨#[]⟩] 35))).below ((Below.refl _ _).alloc (Nat.le_refl _) (.cells #[.int .i64 1, .int .i64 0, .bool false, .string ⟨#[]⟩] 35)))
  have HC := hid (Num_any H2.out hp 9223372036854775807)
  generalize numR rs 9223372036854775807 13 = r at *
  obtain ⟨n, sz, er⟩ := r
  simp only at HC ⊢
  generalize aft rs place err sz er = af at *
  have HD := hid h.old
  clear h H2 hp
  go_enter Try.func32, Try.ntmps32
  go_wp2_with fail
  refine Calls.mono HC.out ?_
  rintro e w3 ⟨rfl, ⟨rv', h1⟩, h2⟩
  have hb := got_blocks h2 hlt
  have H1 := hid h1
  have H3 := hid h2
  have c0 : w3.cell? ⟨w.heap.size + 1, 0, none⟩ = some (.int .i64 1) := by rw [cell_at hb.2]; rfl
  have c1 : w3.cell? ⟨w.heap.size + 1, 1, none⟩ = some (.int .i64 0) := by rw [cell_at hb.2]; rfl
  have c2 : w3.cell? ⟨w.heap.size + 1, 2, none⟩ = some (.bool false) := by rw [cell_at hb.2]; rfl
  have c3 : w3.cell? ⟨w.heap.size + 1, 3, none⟩ = some (.string ⟨#[]⟩) := by rw [cell_at hb.2]; rfl
  have d0 : w3.cell? ⟨w.heap.size, 0, none⟩ = some (.int .i64 0) := by rw [cell_at hb.1]; rfl
  have d1 : w3.cell? ⟨w.heap.size, 1, none⟩ = some (.int .i64 0) := by rw [cell_at hb.1]; rfl
  have d2 : w3.cell? ⟨w.heap.size, 2, none⟩ = some (.bool false) := by rw [cell_at hb.1]; rfl
  have d3 : w3.cell? ⟨w.heap.size, 3, none⟩ = some (.string ⟨#[]⟩) := by rw [cell_at hb.1]; rfl
  have f1 := free_at hb.2 1
  have g0 := free_at hb.1 0
  have g1 := free_at hb.1 1
  have g2 := free_at hb.1 2
  have g3 := free_at hb.1 3
  clear h1 h2 hb
  go_wp2
  refine bodyPost_ret (v := .agg #[.int .i64 1, .int .i64 n, .bool false, .string ⟨#[]⟩]) (by simp [results, Try.results32, go_sem, d0, d1, d2, d3]) rfl ⟨rfl, ⟨rv', ?_⟩, ?_⟩
  · exact ((((H1.out.stored (T := w.heap.size + 1) (by omega) (fun k hk => Nat.lt_succ_of_lt (HD.out k hk)) 1 _).stored hlt HD.out 0 _).stored hlt HD.out 1 _).stored hlt HD.out 2 _).stored hlt HD.out 3 _
  · exact ((((((Only.alloc b w _).trans ((Only.alloc b _ _).trans H3.out)).stored (T := w.heap.size + 1) (by omega) 1 _).stored (Nat.le_refl _) 0 _).stored (Nat.le_refl _) 1 _).stored (Nat.le_refl _) 2 _).stored (Nat.le_refl _) 3 _

set_option maxHeartbeats 3200000 in
set_option maxRecDepth 1000000 in
theorem got_signed {w : World} {b : Nat} {D : Option Nat} {rv : Value} {rs : List UInt8} {place : Nat} {err : Int} (h : Rd w b D rv rs place err) (hp : place + rs.length ≤ 140737488355328) :
    Calls Try.prog 32 #[.pointer (some ⟨b, 0, none⟩), .int .i64 2] w fun e w' => e = .returned (.agg #[.int .i64 2, .int .i64 (signedR rs).1, .bool false, .string ⟨#[]⟩]) ∧ (∃ rv', Rd w' b D rv' (aft rs place err (signedR rs).2.1 (signedR rs).2.2).1 (aft rs place err (signedR rs).2.1 (signedR rs).2.2).2.1 (aft rs place err (signedR rs).2.1 (signedR rs).2.2).2.2) ∧ Only b w w' := by
  have hlt := h.lt
  have H2 := hid ((h.below ((Below.refl _ _).alloc (Nat.le_refl _) (.cells #[.int .i64 0, .int .i64 0, .bool false, .string ⟨#[]⟩] 35))).below ((Below.refl _ _).alloc (Nat.le_refl _) (.cells #[.int .i64 2, .int .i64 0, .bool false, .string ⟨#[]⟩] 35)))
  have HC := hid (Signed_any H2.out hp)
  generalize signedR rs = r at *
  obtain ⟨n, sz, er⟩ := r
  simp only at HC ⊢
  generalize aft rs place err sz er = af at *
  have HD := hid h.old
  clear h H2 hp
  go_enter Try.func32, Try.ntmps32
  go_wp2_with fail
  refine Calls.mono HC.out ?_
  rintro e w3 ⟨rfl, ⟨rv', h1⟩, h2⟩
  have hb := got_blocks h2 hlt
  have H1 := hid h1
  have H3 := hid h2
  have c0 : w3.cell? ⟨w.heap.size + 1, 0, none⟩ = some (.int .i64 2) := by rw [cell_at hb.2]; rfl
  have c1 : w3.cell? ⟨w.heap.size + 1, 1, none⟩ = some (.int .i64 0) := by rw [cell_at hb.2]; rfl
  have c2 : w3.cell? ⟨w.heap.size + 1, 2, none⟩ = some (.bool false) := by rw [cell_at hb.2]; rfl
  have c3 : w3.cell? ⟨w.heap.size + 1, 3, none⟩ = some (.string ⟨#[]⟩) := by rw [cell_at hb.2]; rfl
  have d0 : w3.cell? ⟨w.heap.size, 0, none⟩ = some (.int .i64 0) := by rw [cell_at hb.1]; rfl
  have d1 : w3.cell? ⟨w.heap.size, 1, none⟩ = some (.int .i64 0) := by rw [cell_at hb.1]; rfl
  have d2 : w3.cell? ⟨w.heap.size, 2, none⟩ = some (.bool false) := by rw [cell_at hb.1]; rfl
  have d3 : w3.cell? ⟨w.heap.size, 3, none⟩ = some (.string ⟨#[]⟩) := by rw [cell_at hb.1]; rfl
  have f1 := free_at hb.2 1
  have g0 := free_at hb.1 0
  have g1 := free_at hb.1 1
  have g2 := free_at hb.1 2
  have g3 := free_at hb.1 3
  clear h1 h2 hb
  go_wp2
  refine bodyPost_ret (v := .agg #[.int .i64 2, .int .i64 n, .bool false, .string ⟨#[]⟩]) (by simp [results, Try.results32, go_sem, d0, d1, d2, d3]) rfl ⟨rfl, ⟨rv', ?_⟩, ?_⟩
  · exact ((((H1.out.stored (T := w.heap.size + 1) (by omega) (fun k hk => Nat.lt_succ_of_lt (HD.out k hk)) 1 _).stored hlt HD.out 0 _).stored hlt HD.out 1 _).stored hlt HD.out 2 _).stored hlt HD.out 3 _
  · exact ((((((Only.alloc b w _).trans ((Only.alloc b _ _).trans H3.out)).stored (T := w.heap.size + 1) (by omega) 1 _).stored (Nat.le_refl _) 0 _).stored (Nat.le_refl _) 1 _).stored (Nat.le_refl _) 2 _).stored (Nat.le_refl _) 3 _

set_option maxHeartbeats 3200000 in
set_option maxRecDepth 1000000 in
theorem got_bool {w : World} {b : Nat} {D : Option Nat} {rv : Value} {rs : List UInt8} {place : Nat} {err : Int} (h : Rd w b D rv rs place err) (hp : place + rs.length ≤ 140737488355328) :
    Calls Try.prog 32 #[.pointer (some ⟨b, 0, none⟩), .int .i64 3] w fun e w' => e = .returned (.agg #[.int .i64 3, .int .i64 0, .bool (truthR rs).1, .string ⟨#[]⟩]) ∧ (∃ rv', Rd w' b D rv' (aft rs place err (truthR rs).2.1 (truthR rs).2.2).1 (aft rs place err (truthR rs).2.1 (truthR rs).2.2).2.1 (aft rs place err (truthR rs).2.1 (truthR rs).2.2).2.2) ∧ Only b w w' := by
  have hlt := h.lt
  have H2 := hid ((h.below ((Below.refl _ _).alloc (Nat.le_refl _) (.cells #[.int .i64 0, .int .i64 0, .bool false, .string ⟨#[]⟩] 35))).below ((Below.refl _ _).alloc (Nat.le_refl _) (.cells #[.int .i64 3, .int .i64 0, .bool false, .string ⟨#[]⟩] 35)))
  have HC := hid (Bool_any H2.out hp)
  generalize truthR rs = r at *
  obtain ⟨n, sz, er⟩ := r
  simp only at HC ⊢
  generalize aft rs place err sz er = af at *
  have HD := hid h.old
  clear h H2 hp
  go_enter Try.func32, Try.ntmps32
  go_wp2_with fail
  refine Calls.mono HC.out ?_
  rintro e w3 ⟨rfl, ⟨rv', h1⟩, h2⟩
  have hb := got_blocks h2 hlt
  have H1 := hid h1
  have H3 := hid h2
  have c0 : w3.cell? ⟨w.heap.size + 1, 0, none⟩ = some (.int .i64 3) := by rw [cell_at hb.2]; rfl
  have c1 : w3.cell? ⟨w.heap.size + 1, 1, none⟩ = some (.int .i64 0) := by rw [cell_at hb.2]; rfl
  have c2 : w3.cell? ⟨w.heap.size + 1, 2, none⟩ = some (.bool false) := by rw [cell_at hb.2]; rfl
  have c3 : w3.cell? ⟨w.heap.size + 1, 3, none⟩ = some (.string ⟨#[]⟩) := by rw [cell_at hb.2]; rfl
  have d0 : w3.cell? ⟨w.heap.size, 0, none⟩ = some (.int .i64 0) := by rw [cell_at hb.1]; rfl
  have d1 : w3.cell? ⟨w.heap.size, 1, none⟩ = some (.int .i64 0) := by rw [cell_at hb.1]; rfl
  have d2 : w3.cell? ⟨w.heap.size, 2, none⟩ = some (.bool false) := by rw [cell_at hb.1]; rfl
  have d3 : w3.cell? ⟨w.heap.size, 3, none⟩ = some (.string ⟨#[]⟩) := by rw [cell_at hb.1]; rfl
  have f1 := free_at hb.2 2
  have g0 := free_at hb.1 0
  have g1 := free_at hb.1 1
  have g2 := free_at hb.1 2
  have g3 := free_at hb.1 3
  clear h1 h2 hb
  go_wp2
  refine bodyPost_ret (v := .agg #[.int .i64 3, .int .i64 0, .bool n, .string ⟨#[]⟩]) (by simp [results, Try.results32, go_sem, d0, d1, d2, d3]) rfl ⟨rfl, ⟨rv', ?_⟩, ?_⟩
  · exact ((((H1.out.stored (T := w.heap.size + 1) (by omega) (fun k hk => Nat.lt_succ_of_lt (HD.out k hk)) 2 _).stored hlt HD.out 0 _).stored hlt HD.out 1 _).stored hlt HD.out 2 _).stored hlt HD.out 3 _
  · exact ((((((Only.alloc b w _).trans ((Only.alloc b _ _).trans H3.out)).stored (T := w.heap.size + 1) (by omega) 2 _).stored (Nat.le_refl _) 0 _).stored (Nat.le_refl _) 1 _).stored (Nat.le_refl _) 2 _).stored (Nat.le_refl _) 3 _

set_option maxHeartbeats 3200000 in
set_option maxRecDepth 1000000 in
theorem got_text {w : World} {b : Nat} {D : Option Nat} {rv : Value} {rs : List UInt8} {place : Nat} {err : Int} (h : Rd w b D rv rs place err) (hp : place + rs.length ≤ 140737488355328) :
    Calls Try.prog 32 #[.pointer (some ⟨b, 0, none⟩), .int .i64 4] w fun e w' => e = .returned (.agg #[.int .i64 4, .int .i64 0, .bool false, .string (strB (runR rs 9223372036854775807).1)]) ∧ (∃ rv', Rd w' b D rv' (aft rs place err (runR rs 9223372036854775807).2.1 (runR rs 9223372036854775807).2.2).1 (aft rs place err (runR rs 9223372036854775807).2.1 (runR rs 9223372036854775807).2.2).2.1 (aft rs place err (runR rs 9223372036854775807).2.1 (runR rs 9223372036854775807).2.2).2.2) ∧ Only b w w' := by
  have hlt := h.lt
  have H2 := hid ((h.below ((Below.refl _ _).alloc (Nat.le_refl _) (.cells #[.int .i64 0, .int .i64 0, .bool false, .string ⟨#[]⟩] 35))).below ((Below.refl _ _).alloc (Nat.le_refl _) (.cells #[.int .i64 4, .int .i64 0, .bool false, .string ⟨#[]⟩] 35)))
  have HC := hid (Text_any H2.out hp 9223372036854775807)
  generalize runR rs 9223372036854775807 = r at *
  obtain ⟨n, sz, er⟩ := r
  simp only at HC ⊢
  generalize aft rs place err sz er = af at *
  have HD := hid h.old
  clear h H2 hp
  go_enter Try.func32, Try.ntmps32
  go_wp2_with fail
  refine Calls.mono HC.out ?_
  rintro e w3 ⟨rfl, ⟨rv', h1⟩, h2⟩
  have hb := got_blocks h2 hlt
  have H1 := hid h1
  have H3 := hid h2
  have c0 : w3.cell? ⟨w.heap.size + 1, 0, none⟩ = some (.int .i64 4) := by rw [cell_at hb.2]; rfl
  have c1 : w3.cell? ⟨w.heap.size + 1, 1, none⟩ = some (.int .i64 0) := by rw [cell_at hb.2]; rfl
  have c2 : w3.cell? ⟨w.heap.size + 1, 2, none⟩ = some (.bool false) := by rw [cell_at hb.2]; rfl
  have c3 : w3.cell? ⟨w.heap.size + 1, 3, none⟩ = some (.string ⟨#[]⟩) := by rw [cell_at hb.2]; rfl
  have d0 : w3.cell? ⟨w.heap.size, 0, none⟩ = some (.int .i64 0) := by rw [cell_at hb.1]; rfl
  have d1 : w3.cell? ⟨w.heap.size, 1, none⟩ = some (.int .i64 0) := by rw [cell_at hb.1]; rfl
  have d2 : w3.cell? ⟨w.heap.size, 2, none⟩ = some (.bool false) := by rw [cell_at hb.1]; rfl
  have d3 : w3.cell? ⟨w.heap.size, 3, none⟩ = some (.string ⟨#[]⟩) := by rw [cell_at hb.1]; rfl
  have f1 := free_at hb.2 3
  have g0 := free_at hb.1 0
  have g1 := free_at hb.1 1
  have g2 := free_at hb.1 2
  have g3 := free_at hb.1 3
  clear h1 h2 hb
  go_wp2
  refine bodyPost_ret (v := .agg #[.int .i64 4, .int .i64 0, .bool false, .string (strB n)]) (by simp [results, Try.results32, go_sem, d0, d1, d2, d3]) rfl ⟨rfl, ⟨rv', ?_⟩, ?_⟩
  · exact ((((H1.out.stored (T := w.heap.size + 1) (by omega) (fun k hk => Nat.lt_succ_of_lt (HD.out k hk)) 3 _).stored hlt HD.out 0 _).stored hlt HD.out 1 _).stored hlt HD.out 2 _).stored hlt HD.out 3 _
  · exact ((((((Only.alloc b w _).trans ((Only.alloc b _ _).trans H3.out)).stored (T := w.heap.size + 1) (by omega) 3 _).stored (Nat.le_refl _) 0 _).stored (Nat.le_refl _) 1 _).stored (Nat.le_refl _) 2 _).stored (Nat.le_refl _) 3 _

set_option maxHeartbeats 3200000 in
set_option maxRecDepth 1000000 in
theorem got_bytes {w : World} {b : Nat} {D : Option Nat} {rv : Value} {rs : List UInt8} {place : Nat} {err : Int} (h : Rd w b D rv rs place err) (hp : place + rs.length ≤ 140737488355328) :
    Calls Try.prog 32 #[.pointer (some ⟨b, 0, none⟩), .int .i64 5] w fun e w' => e = .returned (.agg #[.int .i64 5, .int .i64 0, .bool false, .string (strB (runR rs 9223372036854775807).1)]) ∧ (∃ rv', Rd w' b D rv' (aft rs place err (runR rs 9223372036854775807).2.1 (runR rs 9223372036854775807).2.2).1 (aft rs place err (runR rs 9223372036854775807).2.1 (runR rs 9223372036854775807).2.2).2.1 (aft rs place err (runR rs 9223372036854775807).2.1 (runR rs 9223372036854775807).2.2).2.2) ∧ Only b w w' := by
  have hlt := h.lt
  have H2 := hid ((h.below ((Below.refl _ _).alloc (Nat.le_refl _) (.cells #[.int .i64 0, .int .i64 0, .bool false, .string ⟨#[]⟩] 35))).below ((Below.refl _ _).alloc (Nat.le_refl _) (.cells #[.int .i64 5, .int .i64 0, .bool false, .string ⟨#[]⟩] 35)))
  have HC := hid (Bytes_any H2.out hp 9223372036854775807)
  generalize runR rs 9223372036854775807 = r at *
  obtain ⟨n, sz, er⟩ := r
  simp only at HC ⊢
  generalize aft rs place err sz er = af at *
  have HD := hid h.old
  clear h H2 hp
  go_enter Try.func32, Try.ntmps32
  go_wp2_with fail
  refine Calls.mono HC.out ?_
  rintro e w3 ⟨s1, rfl, h0, ⟨rv', h1⟩, h2⟩
  have hb := got_blocks h2 hlt
  have H1 := hid h1
  have H3 := hid h2
  have hcv := conv_string (Reads.of_owns h0)
  obtain ⟨ao, c, hf⟩ := owns_form h0
  generalize n.length = L at hf
  subst hf
  clear h0
  have c0 : w3.cell? ⟨w.heap.size + 1, 0, none⟩ = some (.int .i64 5) := by rw [cell_at hb.2]; rfl
  have c1 : w3.cell? ⟨w.heap.size + 1, 1, none⟩ = some (.int .i64 0) := by rw [cell_at hb.2]; rfl
  have c2 : w3.cell? ⟨w.heap.size + 1, 2, none⟩ = some (.bool false) := by rw [cell_at hb.2]; rfl
  have c3 : w3.cell? ⟨w.heap.size + 1, 3, none⟩ = some (.string ⟨#[]⟩) := by rw [cell_at hb.2]; rfl
  have d0 : w3.cell? ⟨w.heap.size, 0, none⟩ = some (.int .i64 0) := by rw [cell_at hb.1]; rfl
  have d1 : w3.cell? ⟨w.heap.size, 1, none⟩ = some (.int .i64 0) := by rw [cell_at hb.1]; rfl
  have d2 : w3.cell? ⟨w.heap.size, 2, none⟩ = some (.bool false) := by rw [cell_at hb.1]; rfl
  have d3 : w3.cell? ⟨w.heap.size, 3, none⟩ = some (.string ⟨#[]⟩) := by rw [cell_at hb.1]; rfl
  have f1 := free_at hb.2 3
  have g0 := free_at hb.1 0
  have g1 := free_at hb.1 1
  have g2 := free_at hb.1 2
  have g3 := free_at hb.1 3
  clear h1 h2 hb
  go_wp2
  refine bodyPost_ret (v := .agg #[.int .i64 5, .int .i64 0, .bool false, .string (strB n)]) (by simp [results, Try.results32, go_sem, d0, d1, d2, d3]) rfl ⟨rfl, ⟨rv', ?_⟩, ?_⟩
  · exact ((((H1.out.stored (T := w.heap.size + 1) (by omega) (fun k hk => Nat.lt_succ_of_lt (HD.out k hk)) 3 _).stored hlt HD.out 0 _).stored hlt HD.out 1 _).stored hlt HD.out 2 _).stored hlt HD.out 3 _
  · exact ((((((Only.alloc b w _).trans ((Only.alloc b _ _).trans H3.out)).stored (T := w.heap.size + 1) (by omega) 3 _).stored (Nat.le_refl _) 0 _).stored (Nat.le_refl _) 1 _).stored (Nat.le_refl _) 2 _).stored (Nat.le_refl _) 3 _

/-- One item read by its kind. -/
theorem got_any {w : World} {b : Nat} {D : Option Nat} {rv : Value} {rs : List UInt8} {place : Nat} {err : Int} (h : Rd w b D rv rs place err) (hp : place + rs.length ≤ 140737488355328) (kind : Int) (hk : 1 ≤ kind ∧ kind ≤ 5) :
    Calls Try.prog 32 #[.pointer (some ⟨b, 0, none⟩), .int .i64 kind] w fun e w' => e = .returned (.agg #[.int .i64 (gotR kind rs).1.kind, .int .i64 (gotR kind rs).1.n, .bool (gotR kind rs).1.v, .string (gotR kind rs).1.s]) ∧ (∃ rv', Rd w' b D rv' (aft rs place err (gotR kind rs).2.1 (gotR kind rs).2.2).1 (aft rs place err (gotR kind rs).2.1 (gotR kind rs).2.2).2.1 (aft rs place err (gotR kind rs).2.1 (gotR kind rs).2.2).2.2) ∧ Only b w w' := by
  rcases (show kind = 1 ∨ kind = 2 ∨ kind = 3 ∨ kind = 4 ∨ kind = 5 by omega) with rfl | rfl | rfl | rfl | rfl
  · exact got_num h hp
  · exact got_signed h hp
  · exact got_bool h hp
  · exact got_text h hp
  · exact got_bytes h hp

end Go.Proofs.Ytdndfbgjaadbmaa
