import Derived.Test.YtkcepkehgkkkbabDoorRun
import Derived.Laws.BytesString
namespace Go.Proofs.YtkcepkehgkkkbabDoor
open Go.RowKit
set_option linter.unusedVariables false

/-- Bytes as a string. -/
def strB (l : List UInt8) : ByteArray := ⟨l.toArray⟩

theorem foldl_push (l : List UInt8) : ∀ s : ByteArray, (l.map fun b => (b.toNat : Int)).foldl (fun r n => r.push (UInt8.ofNat n.toNat)) s = ⟨s.data ++ l.toArray⟩ := by
  induction l with
  | nil => intro s; simp
  | cons c r ih =>
    intro s
    simp only [List.map_cons, List.foldl_cons]
    rw [ih]
    simp [ByteArray.push]

theorem conv_string {w : World} {s : Value} {l : List UInt8} (h : Reads w s l) : (convert 43 9 s).run Tryd.prog w = .ok (.string (strB l)) w := by
  obtain ⟨ao, c, rfl, hc, hcase⟩ := h
  rw [run_convert_bytes_string w 43 9 5 ao l.length c Tryd.underlying43 Tryd.underlying5 Tryd.underlying9]
  rcases hcase with ⟨rfl, rfl, rfl⟩ | ⟨g, o, rfl, hg, hcell⟩
  · rfl
  · have hl : (loadCells ⟨g, o, none⟩ l.length).run Tryd.prog w = .ok (((l.map fun b => (b.toNat : Int)).map (Value.int .u8)).toArray) w := by
      have := run_loadCells_list (P := Tryd.prog) w ⟨g, o, none⟩ (cellsB l) (by simpa [Addr.add_lit] using hcell)
      rw [cellsB_length] at this
      simpa [cellsB, Function.comp_def] using this
    rw [run_bytesToString w ⟨g, o, none⟩ l.length c _ hl, foldl_push]
    simp [strB]

end Go.Proofs.YtkcepkehgkkkbabDoor
