import Derived.Test.YthoppemjfdnibaaGreatDoorRun
import Derived.Laws.BytesString
namespace Go.Proofs.YthoppemjfdnibaaGreatDoor
open Go.RowKit
set_option linter.unusedVariables false

/-- Bytes as a string. -/
def strB (l : List UInt8) : ByteArray := ⟨l.toArray⟩

theorem foldl_push (l : List UInt8) : ∀ s : ByteArray, (l.map fun b => (b.toNat : Int)).foldl (fun r n => r.push (UInt8.ofNat n.toNat)) s = ⟨s.data ++ l.toArray⟩ := by
  induction l with
  | nil => intro s; simp
  | cons c r ih =>
    intro s
    simp only [List.map_cons, List.foldl_cons]
    rw [ih]
    simp [ByteArray.push]

theorem conv_string {w : World} {s : Value} {l : List UInt8} (h : Reads w s l) : (convert 40 9 s).run Tryz.prog w = .ok (.string (strB l)) w := by
  obtain ⟨ao, c, rfl, hc, hcase⟩ := h
  rw [run_convert_bytes_string w 40 9 5 ao l.length c Tryz.underlying40 Tryz.underlying5 Tryz.underlying9]
  rcases hcase with ⟨rfl, rfl, rfl⟩ | ⟨g, o, rfl, hg, hcell⟩
  · rfl
  · have hl : (loadCells ⟨g, o, none⟩ l.length).run Tryz.prog w = .ok (((l.map fun b => (b.toNat : Int)).map (Value.int .u8)).toArray) w := by
      have := run_loadCells_list (P := Tryz.prog) w ⟨g, o, none⟩ (cellsB l) (by simpa [Addr.add_lit] using hcell)
      rw [cellsB_length] at this
      simpa [cellsB, Function.comp_def] using this
    rw [run_bytesToString w ⟨g, o, none⟩ l.length c _ hl, foldl_push]
    simp [strB]

set_option maxHeartbeats 1600000 in
set_option maxRecDepth 1000000 in
theorem Text_any {w : World} {b : Nat} {D : Option Nat} {rv : Value} {rs : List UInt8} {place : Nat} {err : Int} (h : Rd w b D rv rs place err) (hp : place + rs.length ≤ 140737488355328) (most : Int) :
    Calls Tryz.prog 166 #[.pointer (some ⟨b, 0, none⟩), .int .i64 most] w fun e w' => e = .returned (.string (strB (runR rs most).1)) ∧ (∃ rv', Rd w' b D rv' (aft rs place err (runR rs most).2.1 (runR rs most).2.2).1 (aft rs place err (runR rs most).2.1 (runR rs most).2.2).2.1 (aft rs place err (runR rs most).2.1 (runR rs most).2.2).2.2) ∧ Only b w w' := by
  have HH := hid h
  have hlt := h.lt
  have hrl := (runR_size rs most).2
  clear h
  go_enter_defers Tryz.func166, Tryz.ntmps166
  go_wp2_with fail
  refine (begin_any HH.out).mono ?_
  rintro e w1 ⟨rfl, h1, h2, h3⟩
  have H1 := hid h1
  have H2 := hid h2
  have HN : Hid (rv.ownBlock ≠ some w.heap.size) := fun e => by have := HH.out.reads.block _ e; omega
  clear h1 h2
  go_wp2_with fail
  refine (run_item H1.out (HH.out.below H2.out).reads HN.out most (by omega)).mono ?_
  rintro e w2 ⟨s, rfl, h1, h4, h5, h6⟩
  have hcv := conv_string h1
  have H5 := hid h5
  have H6 := hid h6
  obtain ⟨ao, c, hf⟩ := h1.form
  subst hf
  clear h1 h4 h5 h6
  go_wp2
  refine leaves_cons (f := 137) (args := #[.pointer (some ⟨b, 0, none⟩), .pointer (some ⟨w.heap.size, 0, none⟩)]) (by simp) (by simp [go_sem]) ?_
  refine (end_any .returning ((HH.out.below H2.out).only H6.out (by omega) HN.out) H5.out (by omega) (runR_size _ _).1 hp).mono ?_
  rintro e u' w4 ⟨rfl, rfl, h5, h6⟩
  exact ⟨_, results_tmp rfl _ _ _, rfl, h5, (Only.below (Only.after H2.out H6.out (Nat.le_refl _))).trans h6⟩

end Go.Proofs.YthoppemjfdnibaaGreatDoor

namespace Go.Proofs.YthoppemjfdnibaaGreatDoor
open Go.RowKit
set_option linter.unusedVariables false

/-- The document's writer. -/
structure XWr (w : World) (b : Nat) (v : Value) (bs : List UInt8) (bad : Bool) : Prop where
  box : w.heap[b]? = some (.cells #[v, .bool bad] 106 (0, 0))
  row : w.ownsRow (b + 1) 5 1 v bs.length (cellsB bs)

theorem XWr.lt {w : World} {b : Nat} {v : Value} {bs : List UInt8} {bad : Bool} (h : XWr w b v bs bad) : b < w.heap.size := (Array.getElem?_eq_some_iff.1 h.box).1

theorem XWr.form {w : World} {b : Nat} {v : Value} {bs : List UInt8} {bad : Bool} (h : XWr w b v bs bad) : ∃ ao cap, v = .slice ao bs.length cap := owns_form h.row

/-- It keeps its bytes when it breaks. -/
def Xst (w : World) (b : Nat) (v : Value) : Option (List UInt8) → Prop
  | some bs => XWr w b v bs false
  | none => ∃ bs, XWr w b v bs true

theorem Xst.parts {w : World} {b : Nat} {v : Value} {st : Option (List UInt8)} (h : Xst w b v st) : ∃ bs bad, XWr w b v bs bad := by
  cases st with
  | some bs => exact ⟨_, _, h⟩
  | none => obtain ⟨bs, h⟩ := h; exact ⟨_, _, h⟩

theorem Xst.lt {w : World} {b : Nat} {v : Value} {st : Option (List UInt8)} (h : Xst w b v st) : b < w.heap.size := by
  obtain ⟨_, _, h⟩ := h.parts
  exact h.lt

theorem Xst.own_lt {w : World} {b : Nat} {v : Value} {st : Option (List UInt8)} (h : Xst w b v st) : ∀ k, v.ownBlock = some k → b < k ∧ k < w.heap.size := by
  intro k hk
  obtain ⟨_, _, h⟩ := h.parts
  have := h.row.lt k hk
  omega

theorem XWr.kept {w w' : World} {b : Nat} {v : Value} {bs : List UInt8} {bad : Bool} (h : XWr w b v bs bad) (hb : w'.heap[b]? = w.heap[b]?) (hr : ∀ k, v.ownBlock = some k → w'.heap[k]? = w.heap[k]?) : XWr w' b v bs bad := by
  refine ⟨by rw [hb]; exact h.box, h.row.1, ?_⟩
  rcases h.row.2 with hn | ⟨g, cap, cur, rfl, hg, hgg, rest⟩
  · exact Or.inl hn
  · exact Or.inr ⟨g, cap, cur, rfl, hg, by rw [hr g rfl]; exact hgg, rest⟩

theorem Xst.kept {w w' : World} {b : Nat} {v : Value} {st : Option (List UInt8)} (h : Xst w b v st) (hb : w'.heap[b]? = w.heap[b]?) (hr : ∀ k, v.ownBlock = some k → w'.heap[k]? = w.heap[k]?) : Xst w' b v st := by
  cases st with
  | some bs => exact XWr.kept h hb hr
  | none => obtain ⟨bs, h⟩ := h; exact ⟨bs, h.kept hb hr⟩

theorem Xst.below {w w' : World} {b : Nat} {v : Value} {st : Option (List UInt8)} (h : Xst w b v st) (hb : Below w.heap.size w w') : Xst w' b v st :=
  h.kept (hb.block b h.lt) (fun k hk => hb.block k (h.own_lt k hk).2)

/-- What append and the store leave. -/
theorem xput_after {w w1 : World} {b : Nat} {v v' : Value} {bs news : List UInt8} (h : XWr w b v bs false) (hown : w1.ownsRow (b + 1) 5 1 v' (bs.length + news.length) (cellsB bs ++ cellsB news))
    (hg : w.grownBy w1 v.ownBlock) (hat : v'.ownBlock = v.ownBlock ∨ v'.ownBlock = some w.heap.size) :
    XWr (w1.setCell ⟨b, 0, none⟩ v') b v' (bs ++ news) false ∧ WStep b w v (w1.setCell ⟨b, 0, none⟩ v') v' := by
  have hb := h.lt
  have hne : some b ≠ v.ownBlock := by
    intro e
    have := (h.row.lt b e.symm).1
    omega
  have hbox : w1.heap[b]? = some (.cells #[v, .bool false] 106 (0, 0)) := by rw [hg.block b hb hne]; exact h.box
  have hs : (w1.setCell ⟨b, 0, none⟩ v').heap.size = w1.heap.size := by simp [World.setCell]
  refine ⟨⟨?_, ?_⟩, ⟨hg.os, hg.tape, hg.output, ?_, ?_, ?_⟩⟩
  · rw [heap_setCell_same hbox]; simp
  · rw [cellsB_append, List.length_append]
    exact ownsRow_setCell_below hown (by simp) v'
  · rw [hs]; exact hg.size
  · intro k hk hkb hkv
    rw [Below.heap_setCell _ _ _ _ (by simpa using hkb)]
    exact hg.block k hk hkv
  · intro k hk
    rcases hat with e | e
    · exact Or.inl (e.symm.trans hk)
    · rw [e] at hk; simp at hk; exact Or.inr (by omega)

theorem xput_cell {w w1 : World} {b : Nat} {v : Value} {bs : List UInt8} (h : XWr w b v bs false) (hg : w.grownBy w1 v.ownBlock) : (w1.cell? ⟨b, 0, none⟩).isSome = true ∧ w1.frozen? ⟨b, 0, none⟩ = false := by
  have hb := h.lt
  have hne : some b ≠ v.ownBlock := by
    intro e
    have := (h.row.lt b e.symm).1
    omega
  have hbox : w1.heap[b]? = some (.cells #[v, .bool false] 106 (0, 0)) := by rw [hg.block b hb hne]; exact h.box
  exact ⟨by rw [cell_at hbox]; rfl, free_at hbox 0⟩

set_option maxHeartbeats 800000 in
set_option maxRecDepth 1000000 in
/-- put, of a slice that has an address. -/
theorem xput_some {w : World} {b : Nat} {v : Value} {bs news : List UInt8} (h : XWr w b v bs false) (g o c : Nat) (hc : ∀ j u, (cellsB news)[j]? = some u → w.cell? ((⟨g, o, none⟩ : Addr).add j) = some u)
    (hlen : bs.length + news.length ≤ 140737488355328) :
    Calls Tryz.prog 85 #[.pointer (some ⟨b, 0, none⟩), .slice (some ⟨g, o, none⟩) news.length c] w fun e w' => e = .returned (.tuple #[]) ∧ ∃ v', XWr w' b v' (bs ++ news) false ∧ WStep b w v w' v' := by
  obtain ⟨i0, hi, hz0, hz1, hz2⟩ := info_parts Tryz.info5
  obtain ⟨ao, cap, rfl⟩ := h.form
  have c0 : w.cell? ⟨b, 0, none⟩ = some (.slice ao bs.length cap) := by rw [cell_at h.box]; rfl
  have c1 : w.cell? ⟨b, 1, none⟩ = some (.bool false) := by rw [cell_at h.box]; rfl
  have H := h
  have hlt := h.lt
  have hrow := h.row
  have HH : Hid (XWr w b (.slice ao bs.length cap) bs false) := H
  clear H h
  go_enter Tryz.func85, Tryz.ntmps85
  go_wp2_with (at_builtin; refine wpList_append_own_at _ rfl (.tmp 13) (.tmp 14) 40 rfl (b + 1) 5 i0 (.int .u8 0) 1 1 Tryz.underlying40 hi hz0 hz1 hz2 rfl (by decide) _ _ _ rfl hrow ⟨g, o, none⟩ news.length c (cellsB news) rfl (by rw [cellsB_length]; omega) hc (cellsB_one _) (by unfold maxLen; omega) (by omega) (by omega) ?_)
  intro v' w1 hown hg hnil hat
  have R := xput_after HH.out hown hg hat
  have k0 : (w1.cell? ⟨b, 0, none⟩).isSome = true ∧ w1.frozen? ⟨b, 0, none⟩ = false := xput_cell HH.out hg
  obtain ⟨k0, k1⟩ := k0
  obtain ⟨u0, k0⟩ := Option.isSome_iff_exists.1 k0
  obtain ⟨ao', cap', hv⟩ : ∃ ao' cap', v' = .slice ao' (bs.length + news.length) cap' := by
    rcases hown.2 with ⟨e, h0⟩ | ⟨g, cap', _, e, _⟩
    · exact ⟨none, 0, by rw [e, h0]⟩
    · exact ⟨_, cap', e⟩
  clear hown hg hat hnil c0 c1 hrow
  rw [hv] at R ⊢
  clear hv
  have R' := R; clear R
  have RR : Hid _ := R'; clear R'
  go_wp2
  go_end0
  exact ⟨rfl, _, RR.out⟩
set_option maxHeartbeats 800000 in
set_option maxRecDepth 1000000 in
/-- put, of nil. -/
theorem xput_none {w : World} {b : Nat} {v : Value} {bs : List UInt8} (h : XWr w b v bs false) :
    Calls Tryz.prog 85 #[.pointer (some ⟨b, 0, none⟩), .slice none 0 0] w fun e w' => e = .returned (.tuple #[]) ∧ ∃ v', XWr w' b v' bs false ∧ WStep b w v w' v' := by
  obtain ⟨i0, hi, hz0, hz1, hz2⟩ := info_parts Tryz.info5
  obtain ⟨ao, cap, rfl⟩ := h.form
  have c0 : w.cell? ⟨b, 0, none⟩ = some (.slice ao bs.length cap) := by rw [cell_at h.box]; rfl
  have c1 : w.cell? ⟨b, 1, none⟩ = some (.bool false) := by rw [cell_at h.box]; rfl
  have f0 := free_at h.box 0
  have R := xput_after (news := []) h (w1 := w) (v' := .slice ao bs.length cap) (by simpa [cellsB] using h.row) ⟨rfl, rfl, rfl, Nat.le_refl _, fun _ _ _ => rfl⟩ (Or.inl rfl)
  rw [List.append_nil] at R
  have RR : Hid _ := R; clear R
  have hrow := h.row
  clear h
  go_enter Tryz.func85, Tryz.ntmps85
  go_wp2_with (at_builtin; refine wpList_append_own_none rfl (.tmp 13) (.tmp 14) 40 rfl (b + 1) 5 i0 1 Tryz.underlying40 hi _ _ _ rfl hrow rfl ?_)
  go_end0
  exact ⟨rfl, _, RR.out⟩

set_option maxHeartbeats 800000 in
set_option maxRecDepth 1000000 in
/-- put of a broken writer. -/
theorem xput_broken {w : World} {b : Nat} {v : Value} {bs : List UInt8} (s : Value) (h : XWr w b v bs true) :
    Calls Tryz.prog 85 #[.pointer (some ⟨b, 0, none⟩), s] w fun e w' => e = .returned (.tuple #[]) ∧ w' = w := by
  have c1 : w.cell? ⟨b, 1, none⟩ = some (.bool true) := by rw [cell_at h.box]; rfl
  clear h
  go_enter Tryz.func85, Tryz.ntmps85
  go_wp2
  go_end0
  exact ⟨rfl, rfl⟩

/-- put, of whatever. -/
theorem xput_any {w : World} {b : Nat} {v : Value} {st : Option (List UInt8)} (h : Xst w b v st) {s : Value} {l : List UInt8} (hs : Reads w s l) (hlen : lenS st + l.length ≤ 140737488355328) :
    Calls Tryz.prog 85 #[.pointer (some ⟨b, 0, none⟩), s] w fun e w' => e = .returned (.tuple #[]) ∧ ∃ v', Xst w' b v' (addS st l) ∧ WStep b w v w' v' := by
  cases st with
  | none =>
    obtain ⟨bs, hx⟩ := h
    refine (xput_broken s hx).mono ?_
    rintro e w' ⟨rfl, rfl⟩
    exact ⟨rfl, v, ⟨bs, hx⟩, WStep.refl _ _ _⟩
  | some bs =>
    obtain ⟨ao, c, rfl, hc, hcase⟩ := hs
    rcases hcase with ⟨rfl, rfl, rfl⟩ | ⟨g, o, rfl, hg, hcell⟩
    · refine (xput_none h).mono ?_
      rintro e w' ⟨rfl, v', h1, h2⟩
      exact ⟨rfl, v', by simpa [addS, Xst] using h1, h2⟩
    · refine (xput_some h g o c (by simpa [Addr.add_lit] using hcell) (by simpa [lenS] using hlen)).mono ?_
      rintro e w' ⟨rfl, v', h1, h2⟩
      exact ⟨rfl, v', by simpa [addS, Xst] using h1, h2⟩

end Go.Proofs.YthoppemjfdnibaaGreatDoor
