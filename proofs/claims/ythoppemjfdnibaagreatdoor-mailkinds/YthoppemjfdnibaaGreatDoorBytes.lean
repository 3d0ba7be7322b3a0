import Derived.Test.YthoppemjfdnibaaGreatDoorRun
import Derived.Laws.BytesString
namespace Go.Proofs.YthoppemjfdnibaaGreatDoor
open Go.RowKit
set_option linter.unusedVariables false

/-- Bytes as a string. -/
def strB (l : List UInt8) : ByteArray := ⟨l.toArray⟩

theorem foldl_push (l : List UInt8) : ∀ s : ByteArray, (l.map fun b => (b.toNat : Int)).foldl (fun r n => r.push (UInt8.ofNat n.toNat)) s = ⟨s.data ++ l.toArray⟩ := by
  induction l with
  | nil => intro s; simp
  | cons c r ih =>
    intro s
    simp only [List.map_cons, List.foldl_cons]
    rw [ih]
    simp [ByteArray.push]

theorem conv_string {w : World} {s : Value} {l : List UInt8} (h : Reads w s l) : (convert 40 9 s).run Tryz.prog w = .ok (.string (strB l)) w := by
  obtain ⟨ao, c, rfl, hc, hcase⟩ := h
  rw [run_convert_bytes_string w 40 9 5 ao l.length c Tryz.underlying40 Tryz.underlying5 Tryz.underlying9]
  rcases hcase with ⟨rfl, rfl, rfl⟩ | ⟨g, o, rfl, hg, hcell⟩
  · rfl
  · have hl : (loadCells ⟨g, o, none⟩ l.length).run Tryz.prog w = .ok (((l.map fun b => (b.toNat : Int)).map (Value.int .u8)).toArray) w := by
      have := run_loadCells_list (P := Tryz.prog) w ⟨g, o, none⟩ (cellsB l) (by simpa [Addr.add_lit] using hcell)
      rw [cellsB_length] at this
      simpa [cellsB, Function.comp_def] using this
    rw [run_bytesToString w ⟨g, o, none⟩ l.length c _ hl, foldl_push]
    simp [strB]

set_option maxHeartbeats 1600000 in
set_option maxRecDepth 1000000 in
theorem Text_any {w : World} {b : Nat} {D : Option Nat} {rv : Value} {rs : List UInt8} {place : Nat} {err : Int} (h : Rd w b D rv rs place err) (hp : place + rs.length ≤ 140737488355328) (most : Int) :
    Calls Tryz.prog 166 #[.pointer (some ⟨b, 0, none⟩), .int .i64 most] w fun e w' => e = .returned (.string (strB (runR rs most).1)) ∧ (∃ rv', Rd w' b D rv' (aft rs place err (runR rs most).2.1 (runR rs most).2.2).1 (aft rs place err (runR rs most).2.1 (runR rs most).2.2).2.1 (aft rs place err (runR rs most).2.1 (runR rs most).2.2).2.2) ∧ Only b w w' := by
  have HH := hid h
  have hlt := h.lt
  have hrl := (runR_size rs most).2
  clear h
  go_enter_defers Tryz.func166, Tryz.ntmps166
  go_wp2_with fail
  refine (begin_any HH.out).mono ?_
  rintro e w1 ⟨rfl, h1, h2, h3⟩
  have H1 := hid h1
  have H2 := hid h2
  have HN : Hid (rv.ownBlock ≠ some w.heap.size) := fun e => by have := HH.out.reads.block _ e; omega
  clear h1 h2
  go_wp2_with fail
  refine (run_item H1.out (HH.out.below H2.out).reads HN.out most (by omega)).mono ?_
  rintro e w2 ⟨s, rfl, h1, h4, h5, h6⟩
  have hcv := conv_string h1
  have H5 := hid h5
  have H6 := hid h6
  obtain ⟨ao, c, hf⟩ := h1.form
  subst hf
  clear h1 h4 h5 h6
  go_wp2
  refine leaves_cons (f := 137) (args := #[.pointer (some ⟨b, 0, none⟩), .pointer (some ⟨w.heap.size, 0, none⟩)]) (by simp) (by simp [go_sem]) ?_
  refine (end_any .returning ((HH.out.below H2.out).only H6.out (by omega) HN.out) H5.out (by omega) (runR_size _ _).1 hp).mono ?_
  rintro e u' w4 ⟨rfl, rfl, h5, h6⟩
  exact ⟨_, results_tmp rfl _ _ _, rfl, h5, (Only.below (Only.after H2.out H6.out (Nat.le_refl _))).trans h6⟩

end Go.Proofs.YthoppemjfdnibaaGreatDoor
