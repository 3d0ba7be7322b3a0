import Derived.Test.YtafickhhdemjnaaGreatDoorJ1
import Derived.Laws.BytesString
namespace Go.Proofs.YtafickhhdemjnaaGreatDoor
open Go.RowKit
set_option linter.unusedVariables false

theorem Reads.cut {w : World} {ao : Option Addr} {c size : Nat} {rs : List UInt8} (h : Reads w (.slice ao rs.length c) rs) (hs : size ≤ rs.length) :
    Reads w (.slice (if c = size then ao else ao.map (·.add size)) (rs.length - size) (c - size)) (rs.drop size) ∧ ∀ k, Value.ownBlock (.slice (if c = size then ao else ao.map (·.add size)) (rs.length - size) (c - size)) = some k → Value.ownBlock (.slice ao rs.length c) = some k := by
  obtain ⟨ao', c', e, hc, hcase⟩ := h
  simp only [Value.slice.injEq] at e
  obtain ⟨rfl, _, rfl⟩ := e
  have hl : rs.length - size = (rs.drop size).length := by simp
  rw [hl]
  rcases hcase with ⟨rfl, rfl, rfl⟩ | ⟨g, o, rfl, hg, hcell⟩
  · have : size = 0 := by simpa using hs
    subst this
    exact ⟨⟨none, 0, by simp, by simp, Or.inl ⟨rfl, by simp, rfl⟩⟩, fun k hk => by simpa using hk⟩
  · by_cases hcs : c = size
    · rw [if_pos hcs]
      refine ⟨⟨_, _, rfl, by simp; omega, Or.inr ⟨g, o, rfl, hg, fun j u hu => ?_⟩⟩, fun k hk => by simpa [Value.ownBlock] using hk⟩
      have : rs.drop size = [] := List.drop_eq_nil_of_le (by omega)
      rw [this] at hu
      simp [cellsB] at hu
    · rw [if_neg hcs]
      refine ⟨⟨_, _, rfl, by simp; omega, Or.inr ⟨g, o + size, by simp [Addr.add_lit], hg, fun j u hu => ?_⟩⟩, fun k hk => by simpa [Value.ownBlock, Addr.add_lit] using hk⟩
      have := hcell (size + j) u (by rw [← hu]; simp [cellsB])
      rw [Nat.add_assoc]
      exact this

end Go.Proofs.YtafickhhdemjnaaGreatDoor

namespace Go.Proofs.YtafickhhdemjnaaGreatDoor
open Go.RowKit
set_option linter.unusedVariables false

end Go.Proofs.YtafickhhdemjnaaGreatDoor

namespace Go.Proofs.YtafickhhdemjnaaGreatDoor
open Go.RowKit
set_option linter.unusedVariables false

theorem unfold_odd (n : Nat) (hn : n < 18446744073709551616) (h0 : n % 2 = 1) : wrap64 (bits BinOp.xor IntKind.u64 IntKind.u64.max ((n : Int) / 2)) = unfoldN n := by
  have e0 : IntKind.u64.max = 18446744073709551615 := by decide
  rw [e0, u64_xor _ _ (by omega) (by omega) (by omega) (by omega)]
  have e1 : (18446744073709551615 : Int).toNat = 2 ^ 64 - 1 := by decide
  have e2 : ((n : Int) / 2).toNat < 2 ^ 64 := by omega
  rw [e1, xor_ones _ e2]
  unfold unfoldN wrap64
  rw [if_pos h0]
  omega

/-- What Signed reads. -/
def signedR (rs : List UInt8) : Int × Nat × Int := (unfoldN (look 10 1 0 rs 0).1, (look 10 1 0 rs 0).2.1, (look 10 1 0 rs 0).2.2)

theorem signedR_size (rs : List UInt8) : (signedR rs).2.1 ≤ rs.length := by
  have h := (look_bound 10 1 (by omega) (by omega) (by omega) rs 0 0 (by omega) (by simp)).2.2.1
  unfold signedR
  simp only
  omega

set_option maxHeartbeats 800000 in
set_option maxRecDepth 1000000 in
theorem NewWriter_any (w : World) :
    Calls Tryz.prog 166 #[] w fun e w' => e = .returned (.pointer (some ⟨w.heap.size, 0, none⟩)) ∧ Wst w' w.heap.size (.slice none 0 0) (some []) ∧ Below w.heap.size w w' := by
  go_enter Tryz.func166, Tryz.ntmps166
  go_wp2
  go_ret
  exact ⟨rfl, ⟨alloc_new_at _ _, World.ownsRow_nil _ _ _ _⟩, (Below.refl _ _).alloc (Nat.le_refl _) _⟩

end Go.Proofs.YtafickhhdemjnaaGreatDoor

namespace Go.Proofs.YtafickhhdemjnaaGreatDoor
open Go.RowKit
set_option linter.unusedVariables false

theorem hid {p : Prop} (h : p) : Hid p := h

/-- What is behind the number, as bytes. -/
theorem Reads.part {w : World} {g o c : Nat} {rs : List UInt8} (h : Reads w (.slice (some ⟨g, o, none⟩) rs.length c) rs) (sz n cap : Nat) (hs : sz + n ≤ rs.length) (hn : n ≤ cap) :
    Reads w (.slice (some ⟨g, o + sz, none⟩) n cap) ((rs.drop sz).take n) := by
  obtain ⟨ao', c', e, hc, hcase⟩ := h
  simp only [Value.slice.injEq] at e
  obtain ⟨rfl, _, rfl⟩ := e
  rcases hcase with ⟨hf, _⟩ | ⟨g', o', e, hg, hcell⟩
  · cases hf
  · simp only [Option.some.injEq, Addr.mk.injEq] at e
    obtain ⟨rfl, rfl, _⟩ := e
    have hl : ((rs.drop sz).take n).length = n := by simp; omega
    refine ⟨_, cap, by rw [hl], by rw [hl]; exact hn, Or.inr ⟨_, _, rfl, hg, fun j u hu => ?_⟩⟩
    have hj : j < n := by
      have := (List.getElem?_eq_some_iff.1 hu).1
      rw [cellsB_length, hl] at this
      exact this
    have := hcell (sz + j) u (by rw [← hu]; simp [cellsB, hj])
    rw [Nat.add_assoc]
    exact this

theorem Reads.empty {w : World} (g o cap : Nat) (hg : g < w.heap.size) : Reads w (.slice (some ⟨g, o, none⟩) 0 cap) [] :=
  ⟨_, cap, rfl, by simp, Or.inr ⟨g, o, rfl, hg, fun j u hu => by simp [cellsB] at hu⟩⟩

theorem Reads.nil (w : World) : Reads w (.slice none 0 0) [] := ⟨none, 0, rfl, by simp, Or.inl ⟨rfl, rfl, rfl⟩⟩

theorem numR_nil (rs : List UInt8) (most : Int) : rs = [] → (numR rs most 14).2.2 ≠ 0 := by
  intro h
  subst h
  simp [numR, look]

theorem Reads.lt {w : World} {g o n c : Nat} {l : List UInt8} (h : Reads w (.slice (some ⟨g, o, none⟩) n c) l) : g < w.heap.size := h.block g rfl

theorem cut_run (g o m q cq : Nat) (hq : m ≤ cq) (h0 : 0 < cq) (w : World) : (Instr.slice 76 (.slice (some ⟨g, o, none⟩) q cq) none (some (.int .i64 (m : Int))) none).run Tryz.prog w = .ok (.slice (some ⟨g, o, none⟩) m cq) w := by
  rw [run_slice_h w 76 (some ⟨g, o, none⟩) q cq (by kernel_rfl) .i64 (m : Int) (by omega) (by omega)]
  have hs : (sizeOf (Tryz.prog.elem 76)).run Tryz.prog w = .ok 1 w := by kernel_rfl
  rw [hs]
  simp [sliced, Result.andThen, Addr.add_lit]

end Go.Proofs.YtafickhhdemjnaaGreatDoor

namespace Go.Proofs.YtafickhhdemjnaaGreatDoor
open Go.RowKit
set_option linter.unusedVariables false

/-- Bytes as a string. -/
def strB (l : List UInt8) : ByteArray := ⟨l.toArray⟩

theorem foldl_push (l : List UInt8) : ∀ s : ByteArray, (l.map fun b => (b.toNat : Int)).foldl (fun r n => r.push (UInt8.ofNat n.toNat)) s = ⟨s.data ++ l.toArray⟩ := by
  induction l with
  | nil => intro s; simp
  | cons c r ih =>
    intro s
    simp only [List.map_cons, List.foldl_cons]
    rw [ih]
    simp [ByteArray.push]

theorem conv_string {w : World} {s : Value} {l : List UInt8} (h : Reads w s l) : (convert 76 9 s).run Tryz.prog w = .ok (.string (strB l)) w := by
  obtain ⟨ao, c, rfl, hc, hcase⟩ := h
  rw [run_convert_bytes_string w 76 9 5 ao l.length c Tryz.underlying76 Tryz.underlying5 Tryz.underlying9]
  rcases hcase with ⟨rfl, rfl, rfl⟩ | ⟨g, o, rfl, hg, hcell⟩
  · rfl
  · have hl : (loadCells ⟨g, o, none⟩ l.length).run Tryz.prog w = .ok (((l.map fun b => (b.toNat : Int)).map (Value.int .u8)).toArray) w := by
      have := run_loadCells_list (P := Tryz.prog) w ⟨g, o, none⟩ (cellsB l) (by simpa [Addr.add_lit] using hcell)
      rw [cellsB_length] at this
      simpa [cellsB, Function.comp_def] using this
    rw [run_bytesToString w ⟨g, o, none⟩ l.length c _ hl, foldl_push]
    simp [strB]

end Go.Proofs.YtafickhhdemjnaaGreatDoor

namespace Go.Proofs.YtafickhhdemjnaaGreatDoor
open Go.RowKit
set_option linter.unusedVariables false

end Go.Proofs.YtafickhhdemjnaaGreatDoor
