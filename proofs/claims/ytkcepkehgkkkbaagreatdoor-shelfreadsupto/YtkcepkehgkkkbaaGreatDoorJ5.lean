import Derived.Test.YtkcepkehgkkkbaaGreatDoorRun
import Derived.Laws.BytesString
namespace Go.Proofs.YtkcepkehgkkkbaaGreatDoor
open Go.RowKit
set_option linter.unusedVariables false

/-- Bytes as a string. -/
def strB (l : List UInt8) : ByteArray := ⟨l.toArray⟩

theorem foldl_push (l : List UInt8) : ∀ s : ByteArray, (l.map fun b => (b.toNat : Int)).foldl (fun r n => r.push (UInt8.ofNat n.toNat)) s = ⟨s.data ++ l.toArray⟩ := by
  induction l with
  | nil => intro s; simp
  | cons c r ih =>
    intro s
    simp only [List.map_cons, List.foldl_cons]
    rw [ih]
    simp [ByteArray.push]

theorem conv_string {w : World} {s : Value} {l : List UInt8} (h : Reads w s l) : (convert 22 9 s).run Tryz.prog w = .ok (.string (strB l)) w := by
  obtain ⟨ao, c, rfl, hc, hcase⟩ := h
  rw [run_convert_bytes_string w 22 9 5 ao l.length c Tryz.underlying22 Tryz.underlying5 Tryz.underlying9]
  rcases hcase with ⟨rfl, rfl, rfl⟩ | ⟨g, o, rfl, hg, hcell⟩
  · rfl
  · have hl : (loadCells ⟨g, o, none⟩ l.length).run Tryz.prog w = .ok (((l.map fun b => (b.toNat : Int)).map (Value.int .u8)).toArray) w := by
      have := run_loadCells_list (P := Tryz.prog) w ⟨g, o, none⟩ (cellsB l) (by simpa [Addr.add_lit] using hcell)
      rw [cellsB_length] at this
      simpa [cellsB, Function.comp_def] using this
    rw [run_bytesToString w ⟨g, o, none⟩ l.length c _ hl, foldl_push]
    simp [strB]

set_option maxHeartbeats 1600000 in
set_option maxRecDepth 1000000 in
theorem Text_any {w : World} {b : Nat} {D : Option Nat} {rv : Value} {rs : List UInt8} {place : Nat} {err : Int} (h : Rd w b D rv rs place err) (hp : place + rs.length ≤ 140737488355328) (most : Int) :
    Calls Tryz.prog 54 #[.pointer (some ⟨b, 0, none⟩), .int .i64 most] w fun e w' => e = .returned (.string (strB (runR rs most).1)) ∧ (∃ rv', Rd w' b D rv' (aft rs place err (runR rs most).2.1 (runR rs most).2.2).1 (aft rs place err (runR rs most).2.1 (runR rs most).2.2).2.1 (aft rs place err (runR rs most).2.1 (runR rs most).2.2).2.2) ∧ Only b w w' := by
  have HH := hid h
  have hlt := h.lt
  have hrl := (runR_size rs most).2
  clear h
  go_enter_defers Tryz.func54, Tryz.ntmps54
  go_wp2_with fail
  refine (begin_any HH.out).mono ?_
  rintro e w1 ⟨rfl, h1, h2, h3⟩
  have H1 := hid h1
  have H2 := hid h2
  have HN : Hid (rv.ownBlock ≠ some w.heap.size) := fun e => by have := HH.out.reads.block _ e; omega
  clear h1 h2
  go_wp2_with fail
  refine (run_item H1.out (HH.out.below H2.out).reads HN.out most (by omega)).mono ?_
  rintro e w2 ⟨s, rfl, h1, h4, h5, h6⟩
  have hcv := conv_string h1
  have H5 := hid h5
  have H6 := hid h6
  obtain ⟨ao, c, hf⟩ := h1.form
  subst hf
  clear h1 h4 h5 h6
  go_wp2
  refine leaves_cons (f := 50) (args := #[.pointer (some ⟨b, 0, none⟩), .pointer (some ⟨w.heap.size, 0, none⟩)]) (by simp) (by simp [go_sem]) ?_
  refine (end_any .returning ((HH.out.below H2.out).only H6.out (by omega) HN.out) H5.out (by omega) (runR_size _ _).1 hp).mono ?_
  rintro e u' w4 ⟨rfl, rfl, h5, h6⟩
  exact ⟨_, results_tmp rfl _ _ _, rfl, h5, (Only.below (Only.after H2.out H6.out (Nat.le_refl _))).trans h6⟩

end Go.Proofs.YtkcepkehgkkkbaaGreatDoor

namespace Go.Proofs.YtkcepkehgkkkbaaGreatDoor
open Go.RowKit
set_option linter.unusedVariables false

/-- The document's writer. -/
structure XWr (w : World) (b : Nat) (v : Value) (bs : List UInt8) (bad : Bool) : Prop where
  box : w.heap[b]? = some (.cells #[v, .bool bad] 182 (0, 0))
  row : w.ownsRow (b + 1) 5 1 v bs.length (cellsB bs)

theorem XWr.lt {w : World} {b : Nat} {v : Value} {bs : List UInt8} {bad : Bool} (h : XWr w b v bs bad) : b < w.heap.size := (Array.getElem?_eq_some_iff.1 h.box).1

theorem XWr.form {w : World} {b : Nat} {v : Value} {bs : List UInt8} {bad : Bool} (h : XWr w b v bs bad) : ∃ ao cap, v = .slice ao bs.length cap := owns_form h.row

/-- It keeps its bytes when it breaks. -/
def Xst (w : World) (b : Nat) (v : Value) : Option (List UInt8) → Prop
  | some bs => XWr w b v bs false
  | none => ∃ bs, XWr w b v bs true

theorem Xst.parts {w : World} {b : Nat} {v : Value} {st : Option (List UInt8)} (h : Xst w b v st) : ∃ bs bad, XWr w b v bs bad := by
  cases st with
  | some bs => exact ⟨_, _, h⟩
  | none => obtain ⟨bs, h⟩ := h; exact ⟨_, _, h⟩

theorem Xst.lt {w : World} {b : Nat} {v : Value} {st : Option (List UInt8)} (h : Xst w b v st) : b < w.heap.size := by
  obtain ⟨_, _, h⟩ := h.parts
  exact h.lt

theorem Xst.own_lt {w : World} {b : Nat} {v : Value} {st : Option (List UInt8)} (h : Xst w b v st) : ∀ k, v.ownBlock = some k → b < k ∧ k < w.heap.size := by
  intro k hk
  obtain ⟨_, _, h⟩ := h.parts
  have := h.row.lt k hk
  omega

theorem XWr.kept {w w' : World} {b : Nat} {v : Value} {bs : List UInt8} {bad : Bool} (h : XWr w b v bs bad) (hb : w'.heap[b]? = w.heap[b]?) (hr : ∀ k, v.ownBlock = some k → w'.heap[k]? = w.heap[k]?) : XWr w' b v bs bad := by
  refine ⟨by rw [hb]; exact h.box, h.row.1, ?_⟩
  rcases h.row.2 with hn | ⟨g, cap, cur, rfl, hg, hgg, rest⟩
  · exact Or.inl hn
  · exact Or.inr ⟨g, cap, cur, rfl, hg, by rw [hr g rfl]; exact hgg, rest⟩

theorem Xst.kept {w w' : World} {b : Nat} {v : Value} {st : Option (List UInt8)} (h : Xst w b v st) (hb : w'.heap[b]? = w.heap[b]?) (hr : ∀ k, v.ownBlock = some k → w'.heap[k]? = w.heap[k]?) : Xst w' b v st := by
  cases st with
  | some bs => exact XWr.kept h hb hr
  | none => obtain ⟨bs, h⟩ := h; exact ⟨bs, h.kept hb hr⟩

theorem Xst.below {w w' : World} {b : Nat} {v : Value} {st : Option (List UInt8)} (h : Xst w b v st) (hb : Below w.heap.size w w') : Xst w' b v st :=
  h.kept (hb.block b h.lt) (fun k hk => hb.block k (h.own_lt k hk).2)

/-- What append and the store leave. -/
theorem xput_after {w w1 : World} {b : Nat} {v v' : Value} {bs news : List UInt8} (h : XWr w b v bs false) (hown : w1.ownsRow (b + 1) 5 1 v' (bs.length + news.length) (cellsB bs ++ cellsB news))
    (hg : w.grownBy w1 v.ownBlock) (hat : v'.ownBlock = v.ownBlock ∨ v'.ownBlock = some w.heap.size) :
    XWr (w1.setCell ⟨b, 0, none⟩ v') b v' (bs ++ news) false ∧ WStep b w v (w1.setCell ⟨b, 0, none⟩ v') v' := by
  have hb := h.lt
  have hne : some b ≠ v.ownBlock := by
    intro e
    have := (h.row.lt b e.symm).1
    omega
  have hbox : w1.heap[b]? = some (.cells #[v, .bool false] 182 (0, 0)) := by rw [hg.block b hb hne]; exact h.box
  have hs : (w1.setCell ⟨b, 0, none⟩ v').heap.size = w1.heap.size := by simp [World.setCell]
  refine ⟨⟨?_, ?_⟩, ⟨hg.os, hg.tape, hg.output, ?_, ?_, ?_⟩⟩
  · rw [heap_setCell_same hbox]; simp
  · rw [cellsB_append, List.length_append]
    exact ownsRow_setCell_below hown (by simp) v'
  · rw [hs]; exact hg.size
  · intro k hk hkb hkv
    rw [Below.heap_setCell _ _ _ _ (by simpa using hkb)]
    exact hg.block k hk hkv
  · intro k hk
    rcases hat with e | e
    · exact Or.inl (e.symm.trans hk)
    · rw [e] at hk; simp at hk; exact Or.inr (by omega)

theorem xput_cell {w w1 : World} {b : Nat} {v : Value} {bs : List UInt8} (h : XWr w b v bs false) (hg : w.grownBy w1 v.ownBlock) : (w1.cell? ⟨b, 0, none⟩).isSome = true ∧ w1.frozen? ⟨b, 0, none⟩ = false := by
  have hb := h.lt
  have hne : some b ≠ v.ownBlock := by
    intro e
    have := (h.row.lt b e.symm).1
    omega
  have hbox : w1.heap[b]? = some (.cells #[v, .bool false] 182 (0, 0)) := by rw [hg.block b hb hne]; exact h.box
  exact ⟨by rw [cell_at hbox]; rfl, free_at hbox 0⟩

set_option maxHeartbeats 800000 in
set_option maxRecDepth 1000000 in
/-- put, of a slice that has an address. -/
theorem xput_some {w : World} {b : Nat} {v : Value} {bs news : List UInt8} (h : XWr w b v bs false) (g o c : Nat) (hc : ∀ j u, (cellsB news)[j]? = some u → w.cell? ((⟨g, o, none⟩ : Addr).add j) = some u)
    (hlen : bs.length + news.length ≤ 140737488355328) :
    Calls Tryz.prog 125 #[.pointer (some ⟨b, 0, none⟩), .slice (some ⟨g, o, none⟩) news.length c] w fun e w' => e = .returned (.tuple #[]) ∧ ∃ v', XWr w' b v' (bs ++ news) false ∧ WStep b w v w' v' := by
  obtain ⟨i0, hi, hz0, hz1, hz2⟩ := info_parts Tryz.info5
  obtain ⟨ao, cap, rfl⟩ := h.form
  have c0 : w.cell? ⟨b, 0, none⟩ = some (.slice ao bs.length cap) := by rw [cell_at h.box]; rfl
  have c1 : w.cell? ⟨b, 1, none⟩ = some (.bool false) := by rw [cell_at h.box]; rfl
  have H := h
  have hlt := h.lt
  have hrow := h.row
  have HH : Hid (XWr w b (.slice ao bs.length cap) bs false) := H
  clear H h
  go_enter Tryz.func125, Tryz.ntmps125
  go_wp2_with (at_builtin; refine wpList_append_own_at _ rfl (.tmp 13) (.tmp 14) 22 rfl (b + 1) 5 i0 (.int .u8 0) 1 1 Tryz.underlying22 hi hz0 hz1 hz2 rfl (by decide) _ _ _ rfl hrow ⟨g, o, none⟩ news.length c (cellsB news) rfl (by rw [cellsB_length]; omega) hc (cellsB_one _) (by unfold maxLen; omega) (by omega) (by omega) ?_)
  intro v' w1 hown hg hnil hat
  have R := xput_after HH.out hown hg hat
  have k0 : (w1.cell? ⟨b, 0, none⟩).isSome = true ∧ w1.frozen? ⟨b, 0, none⟩ = false := xput_cell HH.out hg
  obtain ⟨k0, k1⟩ := k0
  obtain ⟨u0, k0⟩ := Option.isSome_iff_exists.1 k0
  obtain ⟨ao', cap', hv⟩ : ∃ ao' cap', v' = .slice ao' (bs.length + news.length) cap' := by
    rcases hown.2 with ⟨e, h0⟩ | ⟨g, cap', _, e, _⟩
    · exact ⟨none, 0, by rw [e, h0]⟩
    · exact ⟨_, cap', e⟩
  clear hown hg hat hnil c0 c1 hrow
  rw [hv] at R ⊢
  clear hv
  have R' := R; clear R
  have RR : Hid _ := R'; clear R'
  go_wp2
  go_end0
  exact ⟨rfl, _, RR.out⟩
set_option maxHeartbeats 800000 in
set_option maxRecDepth 1000000 in
/-- put, of nil. -/
theorem xput_none {w : World} {b : Nat} {v : Value} {bs : List UInt8} (h : XWr w b v bs false) :
    Calls Tryz.prog 125 #[.pointer (some ⟨b, 0, none⟩), .slice none 0 0] w fun e w' => e = .returned (.tuple #[]) ∧ ∃ v', XWr w' b v' bs false ∧ WStep b w v w' v' := by
  obtain ⟨i0, hi, hz0, hz1, hz2⟩ := info_parts Tryz.info5
  obtain ⟨ao, cap, rfl⟩ := h.form
  have c0 : w.cell? ⟨b, 0, none⟩ = some (.slice ao bs.length cap) := by rw [cell_at h.box]; rfl
  have c1 : w.cell? ⟨b, 1, none⟩ = some (.bool false) := by rw [cell_at h.box]; rfl
  have f0 := free_at h.box 0
  have R := xput_after (news := []) h (w1 := w) (v' := .slice ao bs.length cap) (by simpa [cellsB] using h.row) ⟨rfl, rfl, rfl, Nat.le_refl _, fun _ _ _ => rfl⟩ (Or.inl rfl)
  rw [List.append_nil] at R
  have RR : Hid _ := R; clear R
  have hrow := h.row
  clear h
  go_enter Tryz.func125, Tryz.ntmps125
  go_wp2_with (at_builtin; refine wpList_append_own_none rfl (.tmp 13) (.tmp 14) 22 rfl (b + 1) 5 i0 1 Tryz.underlying22 hi _ _ _ rfl hrow rfl ?_)
  go_end0
  exact ⟨rfl, _, RR.out⟩

set_option maxHeartbeats 800000 in
set_option maxRecDepth 1000000 in
/-- put of a broken writer. -/
theorem xput_broken {w : World} {b : Nat} {v : Value} {bs : List UInt8} (s : Value) (h : XWr w b v bs true) :
    Calls Tryz.prog 125 #[.pointer (some ⟨b, 0, none⟩), s] w fun e w' => e = .returned (.tuple #[]) ∧ w' = w := by
  have c1 : w.cell? ⟨b, 1, none⟩ = some (.bool true) := by rw [cell_at h.box]; rfl
  clear h
  go_enter Tryz.func125, Tryz.ntmps125
  go_wp2
  go_end0
  exact ⟨rfl, rfl⟩

/-- put, of whatever. -/
theorem xput_any {w : World} {b : Nat} {v : Value} {st : Option (List UInt8)} (h : Xst w b v st) {s : Value} {l : List UInt8} (hs : Reads w s l) (hlen : lenS st + l.length ≤ 140737488355328) :
    Calls Tryz.prog 125 #[.pointer (some ⟨b, 0, none⟩), s] w fun e w' => e = .returned (.tuple #[]) ∧ ∃ v', Xst w' b v' (addS st l) ∧ WStep b w v w' v' := by
  cases st with
  | none =>
    obtain ⟨bs, hx⟩ := h
    refine (xput_broken s hx).mono ?_
    rintro e w' ⟨rfl, rfl⟩
    exact ⟨rfl, v, ⟨bs, hx⟩, WStep.refl _ _ _⟩
  | some bs =>
    obtain ⟨ao, c, rfl, hc, hcase⟩ := hs
    rcases hcase with ⟨rfl, rfl, rfl⟩ | ⟨g, o, rfl, hg, hcell⟩
    · refine (xput_none h).mono ?_
      rintro e w' ⟨rfl, v', h1, h2⟩
      exact ⟨rfl, v', by simpa [addS, Xst] using h1, h2⟩
    · refine (xput_some h g o c (by simpa [Addr.add_lit] using hcell) (by simpa [lenS] using hlen)).mono ?_
      rintro e w' ⟨rfl, v', h1, h2⟩
      exact ⟨rfl, v', by simpa [addS, Xst] using h1, h2⟩

end Go.Proofs.YtkcepkehgkkkbaaGreatDoor

namespace Go.Proofs.YtkcepkehgkkkbaaGreatDoor
open Go.RowKit
set_option linter.unusedVariables false

theorem xgroup_cell (m : Nat) : [Value.int .u8 ((m : Int) % 128 + 128)] = cellsB [UInt8.ofNat (m % 128 + 128)] := by
  simp only [cellsB, List.map_cons, List.map_nil, UInt8.toNat_ofNat']
  congr 2
  omega

theorem xlow_cell (m : Nat) (h : m < 128) : [Value.int .u8 (m : Int)] = cellsB [UInt8.ofNat m] := by
  simp only [cellsB, List.map_cons, List.map_nil, UInt8.toNat_ofNat']
  congr 2
  omega

/-- A byte more on a list that was made here. -/
theorem made_grow {w0 w w1 : World} {o : Obj} {v : Value} {n : Nat} {xs : List Value} (hb : Below w0.heap.size w0 w) (h : w.ownsRow w0.heap.size 5 1 v n xs) (hg : (w.alloc o).grownBy w1 v.ownBlock) : Below w0.heap.size w0 w1 :=
  (hb.alloc hb.size _).grown hg (by have := hb.size; simp; omega) (fun k hk => (World.ownsRow.lt h k hk).1)

set_option maxHeartbeats 1600000 in
set_option maxRecDepth 1000000 in
theorem xgroups (w : World) (n : Nat) (hn : n < 18446744073709551616) :
    Calls Tryz.prog 126 #[.int .u64 (n : Int)] w fun e w' => ∃ s', e = .returned s' ∧ w'.ownsRow w.heap.size 5 1 s' (enc 9 n).length (cellsB (enc 9 n)) ∧ Below w.heap.size w w' := by
  obtain ⟨i0, hi, hz0, hz1, hz2⟩ := info_parts Tryz.info5
  go_enter Tryz.func126, Tryz.ntmps126
  go_wp2
  go_loopw [0, 3] (fun nv ov wr => ∃ (f m : Nat) (pre : List UInt8), nv = .int .u64 (m : Int) ∧ m < 128 ^ (f + 1) ∧ m < 18446744073709551616 ∧ pre.length + f = 9 ∧ Hid (pre ++ enc f m = enc 9 n) ∧ Hid (wr.ownsRow w.heap.size 5 1 ov pre.length (cellsB pre) ∧ Below w.heap.size w wr)) (fun nv _ _ => (intOf nv).toNat)
  case atStart => exact ⟨9, n, [], rfl, by omega, hn, rfl, by simp [Hid], World.ownsRow_nil _ _ _ _, Below.refl _ _⟩
  case round =>
    obtain ⟨f, m, pre, rfl, hm, hm64, hpf, he, hst⟩ := hrel
    obtain ⟨ao, c, eo⟩ := owns_form hst.out.1
    subst eo
    have hown := hst.out.1
    have hsz := hst.out.2.size
    by_cases hlt : 128 ≤ m
    · obtain ⟨f', hf, hm', hpf', he'⟩ := rel_step hm hlt hpf he.out
      have He' := hid he'
      have Hm' := hid hm'
      have Hp' := hid hpf'
      clear he' hm' hf hpf' he hm
      go_wp2_with (at_builtin; refine wpList_append_own_at _ rfl (.tmp 6) (.tmp 11) 22 rfl w.heap.size 5 i0 (.int .u8 0) 1 1 Tryz.underlying22 hi hz0 hz1 hz2 rfl (by decide) _ _ _ rfl (hown.alloc _) ⟨wr.heap.size, 0, none⟩ 1 1 [.int .u8 ((m : Int) % 128 + 128)] rfl rfl (cell_one_new _ _ _) (fun u hu => by simp at hu; subst hu; rfl) (by unfold maxLen; omega) (by omega) (by simp; omega) ?_)
      intro v' w1 hown1 hgr hnil hat
      have B1 := hid (made_grow hst.out.2 hown hgr)
      rw [xgroup_cell, ← cellsB_append] at hown1
      have H1 := hid hown1
      obtain ⟨ao', c', eo⟩ := owns_form hown1
      subst eo
      clear hown1 hgr hnil hat hown
      go_wp2
      go_roundw
      case rel => exact ⟨f', m / 128, _, by go_num, Hm'.out, by omega, Hp'.out, He', by rw [List.length_append]; exact H1.out, B1.out⟩
      case measure => simp [intOf]; omega
    · have h128 : m < 128 := by omega
      go_wp2_with (at_builtin; refine wpList_append_own_at _ rfl (.tmp 15) (.tmp 18) 22 rfl w.heap.size 5 i0 (.int .u8 0) 1 1 Tryz.underlying22 hi hz0 hz1 hz2 rfl (by decide) _ _ _ rfl (hown.alloc _) ⟨wr.heap.size, 0, none⟩ 1 1 [.int .u8 (m : Int)] rfl rfl (cell_one_new _ _ _) (fun u hu => by simp at hu; subst hu; rfl) (by unfold maxLen; omega) (by omega) (by simp; omega) ?_)
      intro v' w1 hown1 hgr hnil hat
      have B1 := hid (made_grow hst.out.2 hown hgr)
      rw [xlow_cell m h128, ← cellsB_append] at hown1
      have H1 := hid hown1
      obtain ⟨ao', c', eo⟩ := owns_form hown1
      subst eo
      clear hown1 hgr hnil hat hown
      go_wp2
      go_ret
      refine ⟨_, rfl, ?_, B1.out⟩
      rw [← he.out, enc_small f m h128, List.length_append]
      exact H1.out

theorem Xst.reads_apart {w w1 : World} {b : Nat} {v : Value} {st : Option (List UInt8)} (h : Xst w b v st) {s : Value} {n : Nat} {xs : List Value} (ho : w1.ownsRow w.heap.size 5 1 s n xs) : ∀ k, s.ownBlock = some k → k ≠ b ∧ v.ownBlock ≠ some k := by
  intro k hk
  have h1 := (World.ownsRow.lt ho k hk).1
  have h2 := h.lt
  refine ⟨by omega, fun e => ?_⟩
  have := (h.own_lt k e).2
  omega

set_option maxHeartbeats 800000 in
set_option maxRecDepth 1000000 in
theorem xnum_any {w : World} {b : Nat} {v : Value} {st : Option (List UInt8)} (h : Xst w b v st) (n : Int) (hn : n < 9223372036854775808) (hlen : lenS st + 10 ≤ 140737488355328) :
    Calls Tryz.prog 111 #[.pointer (some ⟨b, 0, none⟩), .int .i64 n] w fun e w' => e = .returned (.tuple #[]) ∧ ∃ v', Xst w' b v' (numS st n) ∧ WStep b w v w' v' := by
  have HH := hid h
  by_cases h0 : n < 0
  · obtain ⟨bs, bad, hx⟩ := h.parts
    have c1 : w.cell? ⟨b, 1, none⟩ = some (.bool bad) := by rw [cell_at hx.box]; rfl
    have f1 := free_at hx.box 1
    have R : Hid (Xst (w.setCell ⟨b, 1, none⟩ (.bool true)) b v none ∧ WStep b w v (w.setCell ⟨b, 1, none⟩ (.bool true)) v) := by
      refine ⟨⟨bs, ?_, ownsRow_setCell_below hx.row (by simp) _⟩, ⟨rfl, rfl, rfl, by simp [World.setCell], ?_, fun k hk => Or.inl hk⟩⟩
      · rw [heap_setCell_same hx.box]; rfl
      · intro k hk hkb hkv
        rw [Below.heap_setCell _ _ _ _ (by simpa using hkb)]
    clear h hx
    go_enter Tryz.func111, Tryz.ntmps111
    go_wp2
    refine bodyPost_ret (results_none rfl _ _ _) rfl ?_
    refine ⟨rfl, v, ?_, R.out.2⟩
    unfold numS
    rw [if_pos h0]
    exact R.out.1
  · obtain ⟨m, rfl⟩ := Int.eq_ofNat_of_zero_le (Int.not_lt.1 h0)
    clear h
    go_enter Tryz.func111, Tryz.ntmps111
    go_wp2_with fail
    refine (xgroups w m (by omega)).mono ?_
    rintro e w1 ⟨s', rfl, h1, h2⟩
    have H1 := hid h1
    have H2 := hid h2
    obtain ⟨ao, c, eo⟩ := owns_form h1
    subst eo
    clear h1 h2
    go_wp2_with fail
    refine (xput_any (HH.out.below H2.out) (Reads.of_owns H1.out) (by have := enc_len 9 m; omega)).mono ?_
    rintro e w2 ⟨rfl, v2, h3, h4⟩
    have H3 := hid h3
    have H4 := hid h4
    clear h3 h4
    go_wp2
    go_end0
    refine ⟨rfl, v2, ?_, (WStep.of_below H2.out).trans H4.out⟩
    unfold numS
    rw [if_neg (by omega)]
    exact H3.out

theorem xfold_neg (n : Int) (h0 : n < 0) : (-(n + 1)) * 2 + 1 = (foldN n : Int) := by
  unfold foldN; rw [if_pos h0]; omega

set_option maxHeartbeats 800000 in
set_option maxRecDepth 1000000 in
theorem xtext_any {w : World} {b : Nat} {v : Value} {st : Option (List UInt8)} (h : Xst w b v st) (s : ByteArray) (hlen : lenS st + s.size + 10 ≤ 140737488355328) :
    Calls Tryz.prog 110 #[.pointer (some ⟨b, 0, none⟩), .string s] w fun e w' => e = .returned (.tuple #[]) ∧ ∃ v', Xst w' b v' (addS st (enc 9 s.size ++ s.data.toList)) ∧ WStep b w v w' v' := by
  have HH := hid h
  clear h
  have hcv := fun w s => run_bytes_of_string (P := Tryz.prog) w 9 22 5 s Tryz.underlying9 Tryz.underlying22 Tryz.underlying5
  go_enter Tryz.func110, Tryz.ntmps110
  go_wp2_with fail
  refine (xnum_any HH.out (s.size : Int) (by omega) (by omega)).mono ?_
  rintro e w1 ⟨rfl, v1, h3, h4⟩
  have e1 : numS st (s.size : Int) = addS st (enc 9 s.size) := by unfold numS; rw [if_neg (by omega)]; simp
  rw [e1] at h3
  have H1 := hid h3
  have H2 := hid h4
  clear h3 h4 e1
  go_wp2_with fail
  have hb : Below w1.heap.size w1 (w1.alloc (.cells (bytesRow s (grownCap w1 s.size 0 5)) 5 ((bytesRow s (grownCap w1 s.size 0 5)).size, (bytesRow s (grownCap w1 s.size 0 5)).size + 1))).drew := ((Below.refl _ _).alloc (Nat.le_refl _) _).drew
  refine (xput_any (H1.out.below hb) (Reads.ofString w1 s _ _ (grownCap_ge w1 s.size 0 5)) ?_).mono ?_
  · have : s.data.toList.length = s.size := rfl
    have := lenS_addS st (enc 9 s.size)
    have := enc_len 9 s.size
    omega
  rintro e w2 ⟨rfl, v2, h3, h4⟩
  rw [addS_addS] at h3
  have H3 := hid h3
  have H4 := hid (H2.out.trans ((WStep.of_below hb).trans h4))
  clear h3 h4 hb
  go_wp2
  go_end0
  exact ⟨rfl, v2, H3.out, H4.out⟩

set_option maxHeartbeats 800000 in
set_option maxRecDepth 1000000 in
theorem xdone_some {w : World} {b : Nat} {bs : List UInt8} (g o c : Nat) (h : XWr w b (.slice (some ⟨g, o, none⟩) bs.length c) bs false) (hlen : bs.length ≤ 140737488355328) :
    Calls Tryz.prog 112 #[.pointer (some ⟨b, 0, none⟩)] w fun e w' => ∃ s', e = .returned (.tuple #[s', .int .i64 0]) ∧ w'.ownsRow w.heap.size 5 1 s' bs.length (cellsB bs) ∧ Below w.heap.size w w' := by
  obtain ⟨i0, hi, hz0, hz1, hz2⟩ := info_parts Tryz.info5
  have c0 : w.cell? ⟨b, 0, none⟩ = some (.slice (some ⟨g, o, none⟩) bs.length c) := by rw [cell_at h.box]; rfl
  have c1 : w.cell? ⟨b, 1, none⟩ = some (.bool false) := by rw [cell_at h.box]; rfl
  have hblt := h.lt
  have hr := Reads.of_owns h.row
  have hnews : ∀ j u, (cellsB bs)[j]? = some u → (w.alloc (.cells #[] 5)).cell? ((⟨g, o, none⟩ : Addr).add j) = some u := by
    intro j u hu
    obtain ⟨ao, c', e, _, ⟨_, e2, _⟩ | ⟨g', o', rfl, hg, hc⟩⟩ := hr
    · subst e2; simp [cellsB] at hu
    · simp only [Value.slice.injEq, Option.some.injEq, Addr.mk.injEq] at e
      obtain ⟨⟨rfl, rfl, _⟩, _, _⟩ := e
      rw [Addr.add_lit, World.cell?_alloc_past _ _ _ hg]
      exact hc j u hu
  clear h hr
  have h0 : (w.alloc (.cells #[] 5)).ownsRow w.heap.size 5 1 (.slice (some ⟨w.heap.size, 0, none⟩) 0 0) 0 [] := World.ownsRow_made w #[] 0 (Nat.le_refl _) (by unfold maxLen; omega) rfl
  go_enter Tryz.func112, Tryz.ntmps112
  go_wp2_with (at_builtin; refine wpList_append_own_at _ rfl (.tmp 8) (.tmp 12) 22 rfl w.heap.size 5 i0 (.int .u8 0) 1 1 Tryz.underlying22 hi hz0 hz1 hz2 rfl (by decide) _ _ _ rfl h0 ⟨g, o, none⟩ bs.length c (cellsB bs) rfl (by rw [cellsB_length]; omega) hnews (cellsB_one _) (by unfold maxLen; omega) (by omega) (by simp) ?_)
  intro v' w1 hown hgr hnil hat
  have R : Hid (w1.ownsRow w.heap.size 5 1 v' bs.length (cellsB bs) ∧ Below w.heap.size w w1) := by
    refine ⟨by simpa using hown, ((Below.refl _ _).alloc (Nat.le_refl _) _).grown hgr (by simp) (fun k hk => ?_)⟩
    simp [Value.ownBlock] at hk
    omega
  clear hown hgr hnil hat h0
  obtain ⟨ao', cap', eo⟩ := owns_form R.out.1
  subst eo
  go_wp2
  go_ret2
  exact ⟨_, rfl, R.out.1, R.out.2⟩

set_option maxHeartbeats 800000 in
set_option maxRecDepth 1000000 in
theorem xdone_none {w : World} {b : Nat} (h : XWr w b (.slice none 0 0) [] false) :
    Calls Tryz.prog 112 #[.pointer (some ⟨b, 0, none⟩)] w fun e w' => ∃ s', e = .returned (.tuple #[s', .int .i64 0]) ∧ w'.ownsRow w.heap.size 5 1 s' 0 [] ∧ Below w.heap.size w w' := by
  obtain ⟨i0, hi, hz0, hz1, hz2⟩ := info_parts Tryz.info5
  have c0 : w.cell? ⟨b, 0, none⟩ = some (.slice none 0 0) := by rw [cell_at h.box]; rfl
  have c1 : w.cell? ⟨b, 1, none⟩ = some (.bool false) := by rw [cell_at h.box]; rfl
  have hblt := h.lt
  clear h
  have h0 : (w.alloc (.cells #[] 5)).ownsRow w.heap.size 5 1 (.slice (some ⟨w.heap.size, 0, none⟩) 0 0) 0 [] := World.ownsRow_made w #[] 0 (Nat.le_refl _) (by unfold maxLen; omega) rfl
  have R := hid (And.intro h0 ((Below.refl w.heap.size w).alloc (Nat.le_refl _) (.cells #[] 5)))
  go_enter Tryz.func112, Tryz.ntmps112
  go_wp2_with (at_builtin; refine wpList_append_own_none rfl (.tmp 8) (.tmp 12) 22 rfl w.heap.size 5 i0 1 Tryz.underlying22 hi _ _ _ rfl h0 rfl ?_)
  go_ret2
  exact ⟨_, rfl, R.out.1, R.out.2⟩

theorem xdone_whole {w : World} {b : Nat} {v : Value} {bs : List UInt8} (h : Xst w b v (some bs)) (hlen : bs.length ≤ 140737488355328) :
    Calls Tryz.prog 112 #[.pointer (some ⟨b, 0, none⟩)] w fun e w' => ∃ s', e = .returned (.tuple #[s', .int .i64 0]) ∧ w'.ownsRow w.heap.size 5 1 s' bs.length (cellsB bs) ∧ Below w.heap.size w w' := by
  have hx : XWr w b v bs false := h
  rcases hx.row.2 with ⟨rfl, e⟩ | ⟨g, cap, cur, rfl, _⟩
  · have e1 : bs = [] := List.eq_nil_of_length_eq_zero e
    subst e1
    exact xdone_none hx
  · exact xdone_some g 0 cap hx hlen

set_option maxHeartbeats 800000 in
set_option maxRecDepth 1000000 in
theorem xdone_broken {w : World} {b : Nat} {v : Value} (h : Xst w b v none) :
    Calls Tryz.prog 112 #[.pointer (some ⟨b, 0, none⟩)] w fun e w' => e = .returned (.tuple #[.slice none 0 0, .int .i64 1]) ∧ w' = w := by
  obtain ⟨bs, hx⟩ := h
  have c1 : w.cell? ⟨b, 1, none⟩ = some (.bool true) := by rw [cell_at hx.box]; rfl
  clear hx
  go_enter Tryz.func112, Tryz.ntmps112
  go_wp2
  go_ret2
  exact ⟨rfl, rfl⟩

set_option maxHeartbeats 800000 in
set_option maxRecDepth 1000000 in
theorem xnew_any (w : World) : Calls Tryz.prog 109 #[] w fun e w' => e = .returned (.pointer (some ⟨w.heap.size, 0, none⟩)) ∧ Below w.heap.size w w' ∧ Xst w' w.heap.size (.slice none 0 0) (some []) := by
  have R : Hid (Below w.heap.size w (w.alloc (.cells #[.slice none 0 0, .bool false] 182)) ∧ Xst (w.alloc (.cells #[.slice none 0 0, .bool false] 182)) w.heap.size (.slice none 0 0) (some [])) :=
    ⟨(Below.refl _ _).alloc (Nat.le_refl _) _, ⟨heap_alloc_new _ _, World.ownsRow_nil _ _ _ _⟩⟩
  go_enter Tryz.func109, Tryz.ntmps109
  go_wp2
  go_ret
  exact ⟨rfl, R.out⟩

end Go.Proofs.YtkcepkehgkkkbaaGreatDoor
