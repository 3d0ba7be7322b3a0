import Derived.Test.YtafickhhdemjnaaGreatDoorJ2
import Derived.Test.YtafickhhdemjnaaGreatDoorJ14
import Derived.Test.YtafickhhdemjnaaGreatDoorJ3
import Derived.Test.YtafickhhdemjnaaGreatDoorJ8
import Derived.Test.YtafickhhdemjnaaGreatDoorJ5
namespace Go.Proofs.YtafickhhdemjnaaGreatDoor
open Go.RowKit
set_option linter.unusedVariables false

/-- The document's writer. -/
structure XWr (w : World) (b : Nat) (v : Value) (bs : List UInt8) (bad : Bool) : Prop where
  box : w.heap[b]? = some (.cells #[v, .bool bad] 258 (0, 0))
  row : w.ownsRow (b + 1) 5 1 v bs.length (cellsB bs)

theorem XWr.lt {w : World} {b : Nat} {v : Value} {bs : List UInt8} {bad : Bool} (h : XWr w b v bs bad) : b < w.heap.size := (Array.getElem?_eq_some_iff.1 h.box).1

theorem XWr.form {w : World} {b : Nat} {v : Value} {bs : List UInt8} {bad : Bool} (h : XWr w b v bs bad) : ∃ ao cap, v = .slice ao bs.length cap := owns_form h.row

/-- It keeps its bytes when it breaks. -/
def Xst (w : World) (b : Nat) (v : Value) : Option (List UInt8) → Prop
  | some bs => XWr w b v bs false
  | none => ∃ bs, XWr w b v bs true

theorem Xst.parts {w : World} {b : Nat} {v : Value} {st : Option (List UInt8)} (h : Xst w b v st) : ∃ bs bad, XWr w b v bs bad := by
  cases st with
  | some bs => exact ⟨_, _, h⟩
  | none => obtain ⟨bs, h⟩ := h; exact ⟨_, _, h⟩

theorem Xst.lt {w : World} {b : Nat} {v : Value} {st : Option (List UInt8)} (h : Xst w b v st) : b < w.heap.size := by
  obtain ⟨_, _, h⟩ := h.parts
  exact h.lt

theorem Xst.own_lt {w : World} {b : Nat} {v : Value} {st : Option (List UInt8)} (h : Xst w b v st) : ∀ k, v.ownBlock = some k → b < k ∧ k < w.heap.size := by
  intro k hk
  obtain ⟨_, _, h⟩ := h.parts
  have := h.row.lt k hk
  omega

theorem XWr.kept {w w' : World} {b : Nat} {v : Value} {bs : List UInt8} {bad : Bool} (h : XWr w b v bs bad) (hb : w'.heap[b]? = w.heap[b]?) (hr : ∀ k, v.ownBlock = some k → w'.heap[k]? = w.heap[k]?) : XWr w' b v bs bad := by
  refine ⟨by rw [hb]; exact h.box, h.row.1, ?_⟩
  rcases h.row.2 with hn | ⟨g, cap, cur, rfl, hg, hgg, rest⟩
  · exact Or.inl hn
  · exact Or.inr ⟨g, cap, cur, rfl, hg, by rw [hr g rfl]; exact hgg, rest⟩

theorem Xst.kept {w w' : World} {b : Nat} {v : Value} {st : Option (List UInt8)} (h : Xst w b v st) (hb : w'.heap[b]? = w.heap[b]?) (hr : ∀ k, v.ownBlock = some k → w'.heap[k]? = w.heap[k]?) : Xst w' b v st := by
  cases st with
  | some bs => exact XWr.kept h hb hr
  | none => obtain ⟨bs, h⟩ := h; exact ⟨bs, h.kept hb hr⟩

theorem Xst.below {w w' : World} {b : Nat} {v : Value} {st : Option (List UInt8)} (h : Xst w b v st) (hb : Below w.heap.size w w') : Xst w' b v st :=
  h.kept (hb.block b h.lt) (fun k hk => hb.block k (h.own_lt k hk).2)

/-- What append and the store leave. -/
theorem xput_after {w w1 : World} {b : Nat} {v v' : Value} {bs news : List UInt8} (h : XWr w b v bs false) (hown : w1.ownsRow (b + 1) 5 1 v' (bs.length + news.length) (cellsB bs ++ cellsB news))
    (hg : w.grownBy w1 v.ownBlock) (hat : v'.ownBlock = v.ownBlock ∨ v'.ownBlock = some w.heap.size) :
    XWr (w1.setCell ⟨b, 0, none⟩ v') b v' (bs ++ news) false ∧ WStep b w v (w1.setCell ⟨b, 0, none⟩ v') v' := by
  have hb := h.lt
  have hne : some b ≠ v.ownBlock := by
    intro e
    have := (h.row.lt b e.symm).1
    omega
  have hbox : w1.heap[b]? = some (.cells #[v, .bool false] 258 (0, 0)) := by rw [hg.block b hb hne]; exact h.box
  have hs : (w1.setCell ⟨b, 0, none⟩ v').heap.size = w1.heap.size := by simp [World.setCell]
  refine ⟨⟨?_, ?_⟩, ⟨hg.os, hg.tape, hg.output, ?_, ?_, ?_⟩⟩
  · rw [heap_setCell_same hbox]; simp
  · rw [cellsB_append, List.length_append]
    exact ownsRow_setCell_below hown (by simp) v'
  · rw [hs]; exact hg.size
  · intro k hk hkb hkv
    rw [Below.heap_setCell _ _ _ _ (by simpa using hkb)]
    exact hg.block k hk hkv
  · intro k hk
    rcases hat with e | e
    · exact Or.inl (e.symm.trans hk)
    · rw [e] at hk; simp at hk; exact Or.inr (by omega)

theorem xput_cell {w w1 : World} {b : Nat} {v : Value} {bs : List UInt8} (h : XWr w b v bs false) (hg : w.grownBy w1 v.ownBlock) : (w1.cell? ⟨b, 0, none⟩).isSome = true ∧ w1.frozen? ⟨b, 0, none⟩ = false := by
  have hb := h.lt
  have hne : some b ≠ v.ownBlock := by
    intro e
    have := (h.row.lt b e.symm).1
    omega
  have hbox : w1.heap[b]? = some (.cells #[v, .bool false] 258 (0, 0)) := by rw [hg.block b hb hne]; exact h.box
  exact ⟨by rw [cell_at hbox]; rfl, free_at hbox 0⟩

set_option maxHeartbeats 800000 in
set_option maxRecDepth 1000000 in
/-- put, of a slice that has an address. -/
theorem xput_some {w : World} {b : Nat} {v : Value} {bs news : List UInt8} (h : XWr w b v bs false) (g o c : Nat) (hc : ∀ j u, (cellsB news)[j]? = some u → w.cell? ((⟨g, o, none⟩ : Addr).add j) = some u)
    (hlen : bs.length + news.length ≤ 140737488355328) :
    Calls Tryz.prog 203 #[.pointer (some ⟨b, 0, none⟩), .slice (some ⟨g, o, none⟩) news.length c] w fun e w' => e = .returned (.tuple #[]) ∧ ∃ v', XWr w' b v' (bs ++ news) false ∧ WStep b w v w' v' := by
  obtain ⟨i0, hi, hz0, hz1, hz2⟩ := info_parts Tryz.info5
  obtain ⟨ao, cap, rfl⟩ := h.form
  have c0 : w.cell? ⟨b, 0, none⟩ = some (.slice ao bs.length cap) := by rw [cell_at h.box]; rfl
  have c1 : w.cell? ⟨b, 1, none⟩ = some (.bool false) := by rw [cell_at h.box]; rfl
  have H := h
  have hlt := h.lt
  have hrow := h.row
  have HH : Hid (XWr w b (.slice ao bs.length cap) bs false) := H
  clear H h
  go_enter Tryz.func203, Tryz.ntmps203
  go_wp2_with (at_builtin; refine wpList_append_own_at _ rfl (.tmp 13) (.tmp 14) 76 rfl (b + 1) 5 i0 (.int .u8 0) 1 1 Tryz.underlying76 hi hz0 hz1 hz2 rfl (by decide) _ _ _ rfl hrow ⟨g, o, none⟩ news.length c (cellsB news) rfl (by rw [cellsB_length]; omega) hc (cellsB_one _) (by unfold maxLen; omega) (by omega) (by omega) ?_)
  intro v' w1 hown hg hnil hat
  have R := xput_after HH.out hown hg hat
  have k0 : (w1.cell? ⟨b, 0, none⟩).isSome = true ∧ w1.frozen? ⟨b, 0, none⟩ = false := xput_cell HH.out hg
  obtain ⟨k0, k1⟩ := k0
  obtain ⟨u0, k0⟩ := Option.isSome_iff_exists.1 k0
  obtain ⟨ao', cap', hv⟩ : ∃ ao' cap', v' = .slice ao' (bs.length + news.length) cap' := by
    rcases hown.2 with ⟨e, h0⟩ | ⟨g, cap', _, e, _⟩
    · exact ⟨none, 0, by rw [e, h0]⟩
    · exact ⟨_, cap', e⟩
  clear hown hg hat hnil c0 c1 hrow
  rw [hv] at R ⊢
  clear hv
  have R' := R; clear R
  have RR : Hid _ := R'; clear R'
  go_wp2
  go_end0
  exact ⟨rfl, _, RR.out⟩
set_option maxHeartbeats 800000 in
set_option maxRecDepth 1000000 in
/-- put, of nil. -/
theorem xput_none {w : World} {b : Nat} {v : Value} {bs : List UInt8} (h : XWr w b v bs false) :
    Calls Tryz.prog 203 #[.pointer (some ⟨b, 0, none⟩), .slice none 0 0] w fun e w' => e = .returned (.tuple #[]) ∧ ∃ v', XWr w' b v' bs false ∧ WStep b w v w' v' := by
  obtain ⟨i0, hi, hz0, hz1, hz2⟩ := info_parts Tryz.info5
  obtain ⟨ao, cap, rfl⟩ := h.form
  have c0 : w.cell? ⟨b, 0, none⟩ = some (.slice ao bs.length cap) := by rw [cell_at h.box]; rfl
  have c1 : w.cell? ⟨b, 1, none⟩ = some (.bool false) := by rw [cell_at h.box]; rfl
  have f0 := free_at h.box 0
  have R := xput_after (news := []) h (w1 := w) (v' := .slice ao bs.length cap) (by simpa [cellsB] using h.row) ⟨rfl, rfl, rfl, Nat.le_refl _, fun _ _ _ => rfl⟩ (Or.inl rfl)
  rw [List.append_nil] at R
  have RR : Hid _ := R; clear R
  have hrow := h.row
  clear h
  go_enter Tryz.func203, Tryz.ntmps203
  go_wp2_with (at_builtin; refine wpList_append_own_none rfl (.tmp 13) (.tmp 14) 76 rfl (b + 1) 5 i0 1 Tryz.underlying76 hi _ _ _ rfl hrow rfl ?_)
  go_end0
  exact ⟨rfl, _, RR.out⟩

set_option maxHeartbeats 800000 in
set_option maxRecDepth 1000000 in
/-- put of a broken writer. -/
theorem xput_broken {w : World} {b : Nat} {v : Value} {bs : List UInt8} (s : Value) (h : XWr w b v bs true) :
    Calls Tryz.prog 203 #[.pointer (some ⟨b, 0, none⟩), s] w fun e w' => e = .returned (.tuple #[]) ∧ w' = w := by
  have c1 : w.cell? ⟨b, 1, none⟩ = some (.bool true) := by rw [cell_at h.box]; rfl
  clear h
  go_enter Tryz.func203, Tryz.ntmps203
  go_wp2
  go_end0
  exact ⟨rfl, rfl⟩

/-- put, of whatever. -/
theorem xput_any {w : World} {b : Nat} {v : Value} {st : Option (List UInt8)} (h : Xst w b v st) {s : Value} {l : List UInt8} (hs : Reads w s l) (hlen : lenS st + l.length ≤ 140737488355328) :
    Calls Tryz.prog 203 #[.pointer (some ⟨b, 0, none⟩), s] w fun e w' => e = .returned (.tuple #[]) ∧ ∃ v', Xst w' b v' (addS st l) ∧ WStep b w v w' v' := by
  cases st with
  | none =>
    obtain ⟨bs, hx⟩ := h
    refine (xput_broken s hx).mono ?_
    rintro e w' ⟨rfl, rfl⟩
    exact ⟨rfl, v, ⟨bs, hx⟩, WStep.refl _ _ _⟩
  | some bs =>
    obtain ⟨ao, c, rfl, hc, hcase⟩ := hs
    rcases hcase with ⟨rfl, rfl, rfl⟩ | ⟨g, o, rfl, hg, hcell⟩
    · refine (xput_none h).mono ?_
      rintro e w' ⟨rfl, v', h1, h2⟩
      exact ⟨rfl, v', by simpa [addS, Xst] using h1, h2⟩
    · refine (xput_some h g o c (by simpa [Addr.add_lit] using hcell) (by simpa [lenS] using hlen)).mono ?_
      rintro e w' ⟨rfl, v', h1, h2⟩
      exact ⟨rfl, v', by simpa [addS, Xst] using h1, h2⟩

end Go.Proofs.YtafickhhdemjnaaGreatDoor

namespace Go.Proofs.YtafickhhdemjnaaGreatDoor
open Go.RowKit
set_option linter.unusedVariables false

set_option maxHeartbeats 1600000 in
set_option maxRecDepth 1000000 in
theorem xgroups (w : World) (n : Nat) (hn : n < 18446744073709551616) :
    Calls Tryz.prog 204 #[.int .u64 (n : Int)] w fun e w' => ∃ s', e = .returned s' ∧ w'.ownsRow w.heap.size 5 1 s' (enc 9 n).length (cellsB (enc 9 n)) ∧ Below w.heap.size w w' := by
  obtain ⟨i0, hi, hz0, hz1, hz2⟩ := info_parts Tryz.info5
  go_enter Tryz.func204, Tryz.ntmps204
  go_wp2
  go_loopw [0, 3] (fun nv ov wr => ∃ (f m : Nat) (pre : List UInt8), nv = .int .u64 (m : Int) ∧ m < 128 ^ (f + 1) ∧ m < 18446744073709551616 ∧ pre.length + f = 9 ∧ Hid (pre ++ enc f m = enc 9 n) ∧ Hid (wr.ownsRow w.heap.size 5 1 ov pre.length (cellsB pre) ∧ Below w.heap.size w wr)) (fun nv _ _ => (intOf nv).toNat)
  case atStart => exact ⟨9, n, [], rfl, by omega, hn, rfl, by simp [Hid], World.ownsRow_nil _ _ _ _, Below.refl _ _⟩
  case round =>
    obtain ⟨f, m, pre, rfl, hm, hm64, hpf, he, hst⟩ := hrel
    obtain ⟨ao, c, eo⟩ := owns_form hst.out.1
    subst eo
    have hown := hst.out.1
    have hsz := hst.out.2.size
    by_cases hlt : 128 ≤ m
    · obtain ⟨f', hf, hm', hpf', he'⟩ := rel_step hm hlt hpf he.out
      have He' := hid he'
      have Hm' := hid hm'
      have Hp' := hid hpf'
      clear he' hm' hf hpf' he hm
      go_wp2_with (at_builtin; refine wpList_append_own_at _ rfl (.tmp 6) (.tmp 11) 76 rfl w.heap.size 5 i0 (.int .u8 0) 1 1 Tryz.underlying76 hi hz0 hz1 hz2 rfl (by decide) _ _ _ rfl (hown.alloc _) ⟨wr.heap.size, 0, none⟩ 1 1 [.int .u8 ((m : Int) % 128 + 128)] rfl rfl (cell_one_new _ _ _) (fun u hu => by simp at hu; subst hu; rfl) (by unfold maxLen; omega) (by omega) (by simp; omega) ?_)
      intro v' w1 hown1 hgr hnil hat
      have B1 := hid (made_grow hst.out.2 hown hgr)
      rw [xgroup_cell, ← cellsB_append] at hown1
      have H1 := hid hown1
      obtain ⟨ao', c', eo⟩ := owns_form hown1
      subst eo
      clear hown1 hgr hnil hat hown
      go_wp2
      go_roundw
      case rel => exact ⟨f', m / 128, _, by go_num, Hm'.out, by omega, Hp'.out, He', by rw [List.length_append]; exact H1.out, B1.out⟩
      case measure => simp [intOf]; omega
    · have h128 : m < 128 := by omega
      go_wp2_with (at_builtin; refine wpList_append_own_at _ rfl (.tmp 15) (.tmp 18) 76 rfl w.heap.size 5 i0 (.int .u8 0) 1 1 Tryz.underlying76 hi hz0 hz1 hz2 rfl (by decide) _ _ _ rfl (hown.alloc _) ⟨wr.heap.size, 0, none⟩ 1 1 [.int .u8 (m : Int)] rfl rfl (cell_one_new _ _ _) (fun u hu => by simp at hu; subst hu; rfl) (by unfold maxLen; omega) (by omega) (by simp; omega) ?_)
      intro v' w1 hown1 hgr hnil hat
      have B1 := hid (made_grow hst.out.2 hown hgr)
      rw [xlow_cell m h128, ← cellsB_append] at hown1
      have H1 := hid hown1
      obtain ⟨ao', c', eo⟩ := owns_form hown1
      subst eo
      clear hown1 hgr hnil hat hown
      go_wp2
      go_ret
      refine ⟨_, rfl, ?_, B1.out⟩
      rw [← he.out, enc_small f m h128, List.length_append]
      exact H1.out

theorem Xst.reads_apart {w w1 : World} {b : Nat} {v : Value} {st : Option (List UInt8)} (h : Xst w b v st) {s : Value} {n : Nat} {xs : List Value} (ho : w1.ownsRow w.heap.size 5 1 s n xs) : ∀ k, s.ownBlock = some k → k ≠ b ∧ v.ownBlock ≠ some k := by
  intro k hk
  have h1 := (World.ownsRow.lt ho k hk).1
  have h2 := h.lt
  refine ⟨by omega, fun e => ?_⟩
  have := (h.own_lt k e).2
  omega

set_option maxHeartbeats 800000 in
set_option maxRecDepth 1000000 in
theorem xnum_any {w : World} {b : Nat} {v : Value} {st : Option (List UInt8)} (h : Xst w b v st) (n : Int) (hn : n < 9223372036854775808) (hlen : lenS st + 10 ≤ 140737488355328) :
    Calls Tryz.prog 176 #[.pointer (some ⟨b, 0, none⟩), .int .i64 n] w fun e w' => e = .returned (.tuple #[]) ∧ ∃ v', Xst w' b v' (numS st n) ∧ WStep b w v w' v' := by
  have HH := hid h
  by_cases h0 : n < 0
  · obtain ⟨bs, bad, hx⟩ := h.parts
    have c1 : w.cell? ⟨b, 1, none⟩ = some (.bool bad) := by rw [cell_at hx.box]; rfl
    have f1 := free_at hx.box 1
    have R : Hid (Xst (w.setCell ⟨b, 1, none⟩ (.bool true)) b v none ∧ WStep b w v (w.setCell ⟨b, 1, none⟩ (.bool true)) v) := by
      refine ⟨⟨bs, ?_, ownsRow_setCell_below hx.row (by simp) _⟩, ⟨rfl, rfl, rfl, by simp [World.setCell], ?_, fun k hk => Or.inl hk⟩⟩
      · rw [heap_setCell_same hx.box]; rfl
      · intro k hk hkb hkv
        rw [Below.heap_setCell _ _ _ _ (by simpa using hkb)]
    clear h hx
    go_enter Tryz.func176, Tryz.ntmps176
    go_wp2
    refine bodyPost_ret (results_none rfl _ _ _) rfl ?_
    refine ⟨rfl, v, ?_, R.out.2⟩
    unfold numS
    rw [if_pos h0]
    exact R.out.1
  · obtain ⟨m, rfl⟩ := Int.eq_ofNat_of_zero_le (Int.not_lt.1 h0)
    clear h
    go_enter Tryz.func176, Tryz.ntmps176
    go_wp2_with fail
    refine (xgroups w m (by omega)).mono ?_
    rintro e w1 ⟨s', rfl, h1, h2⟩
    have H1 := hid h1
    have H2 := hid h2
    obtain ⟨ao, c, eo⟩ := owns_form h1
    subst eo
    clear h1 h2
    go_wp2_with fail
    refine (xput_any (HH.out.below H2.out) (Reads.of_owns H1.out) (by have := enc_len 9 m; omega)).mono ?_
    rintro e w2 ⟨rfl, v2, h3, h4⟩
    have H3 := hid h3
    have H4 := hid h4
    clear h3 h4
    go_wp2
    go_end0
    refine ⟨rfl, v2, ?_, (WStep.of_below H2.out).trans H4.out⟩
    unfold numS
    rw [if_neg (by omega)]
    exact H3.out

set_option maxHeartbeats 800000 in
set_option maxRecDepth 1000000 in
theorem xtext_any {w : World} {b : Nat} {v : Value} {st : Option (List UInt8)} (h : Xst w b v st) (s : ByteArray) (hlen : lenS st + s.size + 10 ≤ 140737488355328) :
    Calls Tryz.prog 175 #[.pointer (some ⟨b, 0, none⟩), .string s] w fun e w' => e = .returned (.tuple #[]) ∧ ∃ v', Xst w' b v' (addS st (enc 9 s.size ++ s.data.toList)) ∧ WStep b w v w' v' := by
  have HH := hid h
  clear h
  have hcv := fun w s => run_bytes_of_string (P := Tryz.prog) w 9 76 5 s Tryz.underlying9 Tryz.underlying76 Tryz.underlying5
  go_enter Tryz.func175, Tryz.ntmps175
  go_wp2_with fail
  refine (xnum_any HH.out (s.size : Int) (by omega) (by omega)).mono ?_
  rintro e w1 ⟨rfl, v1, h3, h4⟩
  have e1 : numS st (s.size : Int) = addS st (enc 9 s.size) := by unfold numS; rw [if_neg (by omega)]; simp
  rw [e1] at h3
  have H1 := hid h3
  have H2 := hid h4
  clear h3 h4 e1
  go_wp2_with fail
  have hb : Below w1.heap.size w1 (w1.alloc (.cells (bytesRow s (grownCap w1 s.size 0 5)) 5 ((bytesRow s (grownCap w1 s.size 0 5)).size, (bytesRow s (grownCap w1 s.size 0 5)).size + 1))).drew := ((Below.refl _ _).alloc (Nat.le_refl _) _).drew
  refine (xput_any (H1.out.below hb) (Reads.ofString w1 s _ _ (grownCap_ge w1 s.size 0 5)) ?_).mono ?_
  · have : s.data.toList.length = s.size := rfl
    have := lenS_addS st (enc 9 s.size)
    have := enc_len 9 s.size
    omega
  rintro e w2 ⟨rfl, v2, h3, h4⟩
  rw [addS_addS] at h3
  have H3 := hid h3
  have H4 := hid (H2.out.trans ((WStep.of_below hb).trans h4))
  clear h3 h4 hb
  go_wp2
  go_end0
  exact ⟨rfl, v2, H3.out, H4.out⟩

set_option maxHeartbeats 800000 in
set_option maxRecDepth 1000000 in
theorem xdone_some {w : World} {b : Nat} {bs : List UInt8} (g o c : Nat) (h : XWr w b (.slice (some ⟨g, o, none⟩) bs.length c) bs false) (hlen : bs.length ≤ 140737488355328) :
    Calls Tryz.prog 177 #[.pointer (some ⟨b, 0, none⟩)] w fun e w' => ∃ s', e = .returned (.tuple #[s', .int .i64 0]) ∧ w'.ownsRow w.heap.size 5 1 s' bs.length (cellsB bs) ∧ Below w.heap.size w w' := by
  obtain ⟨i0, hi, hz0, hz1, hz2⟩ := info_parts Tryz.info5
  have c0 : w.cell? ⟨b, 0, none⟩ = some (.slice (some ⟨g, o, none⟩) bs.length c) := by rw [cell_at h.box]; rfl
  have c1 : w.cell? ⟨b, 1, none⟩ = some (.bool false) := by rw [cell_at h.box]; rfl
  have hblt := h.lt
  have hr := Reads.of_owns h.row
  have hnews : ∀ j u, (cellsB bs)[j]? = some u → (w.alloc (.cells #[] 5)).cell? ((⟨g, o, none⟩ : Addr).add j) = some u := by
    intro j u hu
    obtain ⟨ao, c', e, _, ⟨_, e2, _⟩ | ⟨g', o', rfl, hg, hc⟩⟩ := hr
    · subst e2; simp [cellsB] at hu
    · simp only [Value.slice.injEq, Option.some.injEq, Addr.mk.injEq] at e
      obtain ⟨⟨rfl, rfl, _⟩, _, _⟩ := e
      rw [Addr.add_lit, World.cell?_alloc_past _ _ _ hg]
      exact hc j u hu
  clear h hr
  have h0 : (w.alloc (.cells #[] 5)).ownsRow w.heap.size 5 1 (.slice (some ⟨w.heap.size, 0, none⟩) 0 0) 0 [] := World.ownsRow_made w #[] 0 (Nat.le_refl _) (by unfold maxLen; omega) rfl
  go_enter Tryz.func177, Tryz.ntmps177
  go_wp2_with (at_builtin; refine wpList_append_own_at _ rfl (.tmp 8) (.tmp 12) 76 rfl w.heap.size 5 i0 (.int .u8 0) 1 1 Tryz.underlying76 hi hz0 hz1 hz2 rfl (by decide) _ _ _ rfl h0 ⟨g, o, none⟩ bs.length c (cellsB bs) rfl (by rw [cellsB_length]; omega) hnews (cellsB_one _) (by unfold maxLen; omega) (by omega) (by simp) ?_)
  intro v' w1 hown hgr hnil hat
  have R : Hid (w1.ownsRow w.heap.size 5 1 v' bs.length (cellsB bs) ∧ Below w.heap.size w w1) := by
    refine ⟨by simpa using hown, ((Below.refl _ _).alloc (Nat.le_refl _) _).grown hgr (by simp) (fun k hk => ?_)⟩
    simp [Value.ownBlock] at hk
    omega
  clear hown hgr hnil hat h0
  obtain ⟨ao', cap', eo⟩ := owns_form R.out.1
  subst eo
  go_wp2
  go_ret2
  exact ⟨_, rfl, R.out.1, R.out.2⟩

set_option maxHeartbeats 800000 in
set_option maxRecDepth 1000000 in
theorem xdone_none {w : World} {b : Nat} (h : XWr w b (.slice none 0 0) [] false) :
    Calls Tryz.prog 177 #[.pointer (some ⟨b, 0, none⟩)] w fun e w' => ∃ s', e = .returned (.tuple #[s', .int .i64 0]) ∧ w'.ownsRow w.heap.size 5 1 s' 0 [] ∧ Below w.heap.size w w' := by
  obtain ⟨i0, hi, hz0, hz1, hz2⟩ := info_parts Tryz.info5
  have c0 : w.cell? ⟨b, 0, none⟩ = some (.slice none 0 0) := by rw [cell_at h.box]; rfl
  have c1 : w.cell? ⟨b, 1, none⟩ = some (.bool false) := by rw [cell_at h.box]; rfl
  have hblt := h.lt
  clear h
  have h0 : (w.alloc (.cells #[] 5)).ownsRow w.heap.size 5 1 (.slice (some ⟨w.heap.size, 0, none⟩) 0 0) 0 [] := World.ownsRow_made w #[] 0 (Nat.le_refl _) (by unfold maxLen; omega) rfl
  have R := hid (And.intro h0 ((Below.refl w.heap.size w).alloc (Nat.le_refl _) (.cells #[] 5)))
  go_enter Tryz.func177, Tryz.ntmps177
  go_wp2_with (at_builtin; refine wpList_append_own_none rfl (.tmp 8) (.tmp 12) 76 rfl w.heap.size 5 i0 1 Tryz.underlying76 hi _ _ _ rfl h0 rfl ?_)
  go_ret2
  exact ⟨_, rfl, R.out.1, R.out.2⟩

theorem xdone_whole {w : World} {b : Nat} {v : Value} {bs : List UInt8} (h : Xst w b v (some bs)) (hlen : bs.length ≤ 140737488355328) :
    Calls Tryz.prog 177 #[.pointer (some ⟨b, 0, none⟩)] w fun e w' => ∃ s', e = .returned (.tuple #[s', .int .i64 0]) ∧ w'.ownsRow w.heap.size 5 1 s' bs.length (cellsB bs) ∧ Below w.heap.size w w' := by
  have hx : XWr w b v bs false := h
  rcases hx.row.2 with ⟨rfl, e⟩ | ⟨g, cap, cur, rfl, _⟩
  · have e1 : bs = [] := List.eq_nil_of_length_eq_zero e
    subst e1
    exact xdone_none hx
  · exact xdone_some g 0 cap hx hlen

set_option maxHeartbeats 800000 in
set_option maxRecDepth 1000000 in
theorem xdone_broken {w : World} {b : Nat} {v : Value} (h : Xst w b v none) :
    Calls Tryz.prog 177 #[.pointer (some ⟨b, 0, none⟩)] w fun e w' => e = .returned (.tuple #[.slice none 0 0, .int .i64 1]) ∧ w' = w := by
  obtain ⟨bs, hx⟩ := h
  have c1 : w.cell? ⟨b, 1, none⟩ = some (.bool true) := by rw [cell_at hx.box]; rfl
  clear hx
  go_enter Tryz.func177, Tryz.ntmps177
  go_wp2
  go_ret2
  exact ⟨rfl, rfl⟩

set_option maxHeartbeats 800000 in
set_option maxRecDepth 1000000 in
theorem xnew_any (w : World) : Calls Tryz.prog 174 #[] w fun e w' => e = .returned (.pointer (some ⟨w.heap.size, 0, none⟩)) ∧ Below w.heap.size w w' ∧ Xst w' w.heap.size (.slice none 0 0) (some []) := by
  have R : Hid (Below w.heap.size w (w.alloc (.cells #[.slice none 0 0, .bool false] 258)) ∧ Xst (w.alloc (.cells #[.slice none 0 0, .bool false] 258)) w.heap.size (.slice none 0 0) (some [])) :=
    ⟨(Below.refl _ _).alloc (Nat.le_refl _) _, ⟨heap_alloc_new _ _, World.ownsRow_nil _ _ _ _⟩⟩
  go_enter Tryz.func174, Tryz.ntmps174
  go_wp2
  go_ret
  exact ⟨rfl, R.out⟩

end Go.Proofs.YtafickhhdemjnaaGreatDoor

namespace Go.Proofs.YtafickhhdemjnaaGreatDoor
open Go.RowKit
set_option linter.unusedVariables false

set_option maxHeartbeats 1600000 in
set_option maxRecDepth 1000000 in
theorem checkX_ref {w : World} (c n : Int) {s : Value} {l : List ByteArray} (h : Txts w s l) (hl : l.length ≤ 9223372036854775807) : Calls Tryz.prog 142 #[resV c n s] w fun e w' => e = .returned (.int .i64 (chkX c n l)) ∧ Below w.heap.size w w' := by
  obtain ⟨ao, cp, rfl⟩ := h.form
  have HT := hid h
  have HH : Hid (∀ o, ∃ w1, w1 = w.alloc o) := fun o => ⟨_, rfl⟩
  clear h
  by_cases c0 : c < 0
  · have F : Hid (chkX c n l = 50) := by simp [chkX, c0, Hid]
    have e0 : decide (c < 0) = true := by simpa using c0
    go_enter Tryz.func142, Tryz.ntmps142
    go_wp2
    go_ret
    exact ⟨by rw [F.out]; rfl, ba _ _⟩
  have e0 : decide (c < 0) = false := by simpa using c0
  by_cases c4 : 4 < c
  · have F : Hid (chkX c n l = 50) := by simp [chkX, c4, Hid]
    have e4 : decide (4 < c) = true := by simpa using c4
    go_enter Tryz.func142, Tryz.ntmps142
    go_wp2
    go_ret
    exact ⟨by rw [F.out]; rfl, ba _ _⟩
  have e4 : decide (4 < c) = false := by simpa using c4
  by_cases hcn : c ≠ 0 ∧ (n ≠ 0 ∨ l ≠ [])
  · have F : Hid (chkX c n l = 55) := by unfold chkX; rw [if_neg (by omega), if_pos hcn]; exact rfl
    have ec : (c != 0) = true := by simpa using hcn.1
    by_cases hn : n = 0
    · have hl0 : 0 < l.length := by
        rcases hcn.2 with h | h
        · exact absurd hn h
        · exact List.length_pos_iff.2 h
      subst hn
      have eL : decide (0 < (l.length : Int)) = true := by simpa using hl0
      clear hcn
      go_enter Tryz.func142, Tryz.ntmps142
      go_wp2
      go_ret
      exact ⟨by rw [F.out]; rfl, ba _ _⟩
    · have en : (n != 0) = true := by simpa using hn
      clear hcn
      go_enter Tryz.func142, Tryz.ntmps142
      go_wp2
      go_ret
      exact ⟨by rw [F.out]; rfl, ba _ _⟩
  have G : Hid (c = 0 ∨ (c ≠ 0 ∧ n = 0 ∧ l = [])) := by
    rcases Classical.em (c = 0) with h | h
    · exact Or.inl h
    · refine Or.inr ⟨h, ?_, ?_⟩
      · exact Classical.byContradiction fun hh => hcn ⟨h, Or.inl hh⟩
      · exact Classical.byContradiction fun hh => hcn ⟨h, Or.inr hh⟩
  have F1 : Hid (chkX c n l = if n < 0 ∨ 1099511627776 < n then 53 else if 8 < l.length then 54 else if ∃ t ∈ l, 64 < t.size then 52 else 0) := by unfold chkX; rw [if_neg (by omega), if_neg hcn]; exact rfl
  clear hcn
  rcases G.out with hc | ⟨hc, hn0, hl0⟩
  · subst hc
    clear G e0 e4 c0 c4
    by_cases n0 : n < 0
    · have F : Hid (chkX 0 n l = 53) := by rw [F1.out]; simp [n0, Hid]
      have en : decide (n < 0) = true := by simpa using n0
      clear F1
      go_enter Tryz.func142, Tryz.ntmps142
      go_wp2
      go_ret
      exact ⟨by rw [F.out]; rfl, ba _ _⟩
    have en : decide (n < 0) = false := by simpa using n0
    by_cases n1 : 1099511627776 < n
    · have F : Hid (chkX 0 n l = 53) := by rw [F1.out]; simp [n1, Hid]
      have en1 : decide (1099511627776 < n) = true := by simpa using n1
      clear F1
      go_enter Tryz.func142, Tryz.ntmps142
      go_wp2
      go_ret
      exact ⟨by rw [F.out]; rfl, ba _ _⟩
    have en1 : decide (1099511627776 < n) = false := by simpa using n1
    by_cases l8 : 8 < l.length
    · have F : Hid (chkX 0 n l = 54) := by rw [F1.out]; simp [l8, Hid]; omega
      have e8 : decide ((8 : Int) < (l.length : Int)) = true := by simp; omega
      clear F1
      go_enter Tryz.func142, Tryz.ntmps142
      go_wp2
      go_ret
      exact ⟨by rw [F.out]; rfl, ba _ _⟩
    have e8 : decide ((8 : Int) < (l.length : Int)) = false := by simp; omega
    have F2 : Hid (chkX 0 n l = if ∃ t ∈ l, 64 < t.size then 52 else 0) := by rw [F1.out, if_neg (by omega), if_neg l8]; exact rfl
    clear F1
    go_enter Tryz.func142, Tryz.ntmps142
    go_wp2
    go_loopw [3] (fun iv wr => ∃ k : Nat, iv = .int .i64 (k : Int) ∧ k ≤ l.length ∧ Hid (∀ j (hj : j < k) (hl : j < l.length), l[j].size ≤ 64) ∧ wr = w.alloc (.cells #[.int .i64 0, .int .i64 n, .slice ao l.length cp] 56)) (fun iv _ => l.length - (intOf iv).toNat)
    case atStart => exact ⟨0, rfl, Nat.zero_le _, fun j hj => absurd hj (by omega), rfl⟩
    case round =>
      obtain ⟨k, rfl, hk, hbef, rfl⟩ := hrel
      by_cases hlt : k < l.length
      · obtain ⟨g, o, ea, hg, hcell⟩ := (HT.out.alloc (.cells #[.int .i64 0, .int .i64 n, .slice ao l.length cp] 56)).at hlt
        subst ea
        have el : decide ((k : Int) < (l.length : Int)) = true := by simpa using hlt
        by_cases h64 : 64 < (l[k]'hlt).size
        · have e64 : decide ((64 : Int) < ((l[k]'hlt).size : Int)) = true := by simp; omega
          go_wp2
          go_ret
          exact ⟨by rw [F2.out, if_pos ⟨_, List.getElem_mem hlt, h64⟩]; rfl, ba _ _⟩
        · have e64 : decide ((64 : Int) < ((l[k]'hlt).size : Int)) = false := by simp; omega
          go_wp2
          go_roundw
          case rel => exact ⟨k + 1, by go_num, by omega, fun j hj hl => by rcases Nat.lt_succ_iff_lt_or_eq.1 hj with h | h; exact hbef.out j h hl; subst h; omega, trivial⟩
          case measure => simp [intOf]; omega
      · have el : decide ((k : Int) < (l.length : Int)) = false := by simp; omega
        go_wp2
        go_ret
        exact ⟨by rw [F2.out, if_neg]; rfl; rintro ⟨t, ht, h64⟩; obtain ⟨j, hj, rfl⟩ := List.getElem_of_mem ht; have := hbef.out j (by omega) hj; omega, ba _ _⟩
  · subst hn0
    subst hl0
    have F2 : Hid (chkX c 0 [] = 0) := by rw [F1.out]; simp [Hid]
    have ec : (c != 0) = true := by simpa using hc
    clear F1 G
    simp only [List.length_nil] at HT ⊢
    go_enter Tryz.func142, Tryz.ntmps142
    go_wp2
    go_loopw [3] (fun iv wr => iv = .int .i64 0 ∧ wr = w.alloc (.cells #[.int .i64 c, .int .i64 0, .slice ao 0 cp] 56)) (fun iv _ => 0)
    case atStart => exact ⟨rfl, rfl⟩
    case round =>
      obtain ⟨rfl, rfl⟩ := hrel
      go_wp2
      go_ret
      exact ⟨by rw [F2.out]; rfl, ba _ _⟩
end Go.Proofs.YtafickhhdemjnaaGreatDoor

namespace Go.Proofs.YtafickhhdemjnaaGreatDoor
open Go.RowKit
set_option linter.unusedVariables false

/-- A text as bytes. -/
def txtB (s : ByteArray) : List UInt8 := enc 9 s.size ++ s.data.toList
theorem lenS_nat (st : Option (List UInt8)) (k : Nat) : lenS (addS st (enc 9 k)) ≤ lenS st + 10 := by
  have h1 := lenS_addS st (enc 9 k)
  have h2 := enc_len 9 k
  omega
theorem txtB_len (s : ByteArray) : (txtB s).length ≤ s.size + 10 := by
  have h2 := enc_len 9 s.size
  rw [txtB, List.length_append, str_len]
  omega
theorem lenS_txt (st : Option (List UInt8)) (s : ByteArray) : lenS (addS st (enc 9 s.size ++ s.data.toList)) ≤ lenS st + (s.size + 10) := by
  have h1 := lenS_addS st (enc 9 s.size ++ s.data.toList)
  have h2 := txtB_len s
  have h3 : (txtB s).length = (enc 9 s.size ++ s.data.toList).length := rfl
  omega
theorem lenS_num (st : Option (List UInt8)) (n : Int) : lenS (numS st n) ≤ lenS st + 10 := by
  unfold numS
  split
  · simp [lenS]
  · exact lenS_nat _ _
/-- The document's writer, as a part. -/
def xwC (b : Nat) (v : Value) (st : Option (List UInt8)) : Comp := ⟨fun w => Xst w b v st, b :: v.ownBlock.toList⟩
theorem xst_kept {w w' : World} {b : Nat} {v : Value} {st : Option (List UInt8)} (h : Xst w b v st) (hb : w'.heap[b]? = w.heap[b]?) (hr : ∀ k, v.ownBlock = some k → w'.heap[k]? = w.heap[k]?) : Xst w' b v st := by
  have key : ∀ {bs : List UInt8} {bad : Bool}, XWr w b v bs bad → XWr w' b v bs bad := by
    intro bs bad h
    refine ⟨by rw [hb]; exact h.box, h.row.1, ?_⟩
    rcases h.row.2 with hn | ⟨g, cap, cur, rfl, hg, hgg, rest⟩
    · exact Or.inl hn
    · exact Or.inr ⟨g, cap, cur, rfl, hg, by rw [hr g rfl]; exact hgg, rest⟩
  cases st with
  | some bs => exact key h
  | none => obtain ⟨bs, h⟩ := h; exact ⟨bs, key h⟩
theorem xst_lt {w : World} {b : Nat} {v : Value} {st : Option (List UInt8)} (h : Xst w b v st) : b < w.heap.size := by
  cases st with
  | some bs => exact (Array.getElem?_eq_some_iff.1 (XWr.box h)).1
  | none => obtain ⟨bs, h⟩ := h; exact (Array.getElem?_eq_some_iff.1 h.box).1
theorem xst_own {w : World} {b : Nat} {v : Value} {st : Option (List UInt8)} (h : Xst w b v st) : ∀ k, v.ownBlock = some k → k < w.heap.size := by
  intro k hk
  cases st with
  | some bs => exact ((XWr.row h).lt k hk).2
  | none => obtain ⟨bs, h⟩ := h; exact (h.row.lt k hk).2
theorem xwC_good (b : Nat) (v : Value) (st : Option (List UInt8)) : (xwC b v st).Good := fun w w' h _ hk =>
  xst_kept h (hk b (by simp [xwC])) (fun k hk' => hk k (by simp [xwC, hk']))
theorem All.xstep {b : Nat} {v v' : Value} {st st' : Option (List UInt8)} {cs : List Comp} {w w' : World} (h : All (xwC b v st :: cs) w) (h1 : Xst w' b v' st') (h2 : WStep b w v w' v') : All (xwC b v' st' :: cs) w' := by
  refine h.turn ⟨h2.os, h2.tape, h2.output, h2.size, fun k hk hn => ?_⟩ (xwC_good _ _ _) h1 (fun k hk => ?_) (fun k hk => ?_)
  · simp [xwC] at hn
    exact h2.block k hk hn.1 (fun e => hn.2 e.symm)
  · simp [xwC] at hk
    rcases hk with rfl | hk
    · exact Or.inl (by simp [xwC])
    · rcases h2.own k hk with e | e
      · exact Or.inl (by simp [xwC, e])
      · exact Or.inr e
  · simp [xwC] at hk
    rcases hk with rfl | hk
    · exact xst_lt h1
    · exact xst_own h1 k hk
theorem xnewW {cs : List Comp} {w : World} (h : All cs w) : Calls Tryz.prog 174 #[] w fun e w' => ∃ b, e = .returned (.pointer (some ⟨b, 0, none⟩)) ∧ All (xwC b (.slice none 0 0) (some []) :: cs) w' :=
  (xnew_any w).mono fun e w' ⟨h1, h3, h2⟩ => ⟨_, h1, h.add (Fr.below h3) (xwC_good _ _ _) h2 (fun k hk => by
    have hk' : k = w.heap.size := by simpa [xwC, Value.ownBlock] using hk
    subst hk'
    exact ⟨Nat.le_refl _, xst_lt h2⟩)⟩
theorem xtextW {b : Nat} {v : Value} {st : Option (List UInt8)} {cs : List Comp} {w : World} (h : All (xwC b v st :: cs) w) (s : ByteArray) (hlen : lenS st + s.size + 10 ≤ 140737488355328) : Calls Tryz.prog 175 #[.pointer (some ⟨b, 0, none⟩), .string s] w fun e w' => e = .returned (.tuple #[]) ∧ ∃ v', All (xwC b v' (addS st (enc 9 s.size ++ s.data.toList)) :: cs) w' :=
  (xtext_any h.1.2.1 s hlen).mono fun e w' ⟨h1, v', h2, h3⟩ => ⟨h1, v', h.xstep h2 h3⟩
theorem xnumW {b : Nat} {v : Value} {st : Option (List UInt8)} {cs : List Comp} {w : World} (h : All (xwC b v st :: cs) w) (n : Int) (hn : n < 9223372036854775808) (hlen : lenS st + 10 ≤ 140737488355328) : Calls Tryz.prog 176 #[.pointer (some ⟨b, 0, none⟩), .int .i64 n] w fun e w' => e = .returned (.tuple #[]) ∧ ∃ v', All (xwC b v' (numS st n) :: cs) w' :=
  (xnum_any h.1.2.1 n hn hlen).mono fun e w' ⟨h1, v', h2, h3⟩ => ⟨h1, v', h.xstep h2 h3⟩
theorem xnatW {b : Nat} {v : Value} {st : Option (List UInt8)} {cs : List Comp} {w : World} (h : All (xwC b v st :: cs) w) (n : Nat) (hn : n < 9223372036854775808) (hlen : lenS st + 10 ≤ 140737488355328) : Calls Tryz.prog 176 #[.pointer (some ⟨b, 0, none⟩), .int .i64 (n : Int)] w fun e w' => e = .returned (.tuple #[]) ∧ ∃ v', All (xwC b v' (addS st (enc 9 n)) :: cs) w' := by
  have := xnumW h (n : Int) (by omega) hlen
  rw [numS_nat] at this
  exact this

theorem xdoneW {b : Nat} {v : Value} {bs : List UInt8} {cs : List Comp} {w : World} (h : All (xwC b v (some bs) :: cs) w) (hlen : bs.length ≤ 140737488355328) : Calls Tryz.prog 177 #[.pointer (some ⟨b, 0, none⟩)] w fun e w' => ∃ so sc, e = .returned (.tuple #[.slice so bs.length sc, .int .i64 0]) ∧ All (ownC 5 (.slice so bs.length sc) (cellsB bs) :: xwC b v (some bs) :: cs) w' :=
  (xdone_whole h.1.2.1 hlen).mono fun e w' ⟨s', h1, h2, h3⟩ => by
    obtain ⟨so, sc, rfl⟩ := owns_form h2
    exact ⟨so, sc, h1, h.addOwn h3 (by rw [cellsB_length]; exact h2)⟩

end Go.Proofs.YtafickhhdemjnaaGreatDoor

namespace Go.Proofs.YtafickhhdemjnaaGreatDoor
open Go.RowKit
set_option linter.unusedVariables false

/-- What is written of a result. -/
def putX (st : Option (List UInt8)) (c n : Int) (l : List ByteArray) : Option (List UInt8) :=
  if chkX c n l = 0 then (if c = 0 then addS (numS (numS st c) n) (itemsB l) else numS st c) else none

theorem itemsB_len (l : List ByteArray) : (itemsB l).length ≤ bulkT l + 10 := by
  have h1 := enc_len 9 l.length
  have h2 := textsB_len l
  rw [itemsB, List.length_append]
  omega

set_option maxHeartbeats 1600000 in
set_option maxRecDepth 1000000 in
theorem putR_any {b : Nat} {v : Value} {st : Option (List UInt8)} {s : Value} {l : List ByteArray} {cs : List Comp} {w : World} (h : All (wrC b v st :: cs) w) (hT : ∀ w', All cs w' → Txts w' s l) (c n : Int) (hc : c < 9223372036854775808) (hn : n < 9223372036854775808) (hlen : lenS st + bulkT l + 100 ≤ 140737488355328) (hl : l.length ≤ 1099511627776) :
    Calls Tryz.prog 168 #[.pointer (some ⟨b, 0, none⟩), resV c n s] w fun e w' => e = .returned (.tuple #[]) ∧ ∃ v', All (wrC b v' (putX st c n l) :: cs) w' := by
  obtain ⟨ao, cp, rfl⟩ := (hT w h.tail).form
  have A := hid (h.addBlk [.int .i64 c, .int .i64 n, .slice ao l.length cp] 56)
  have HT := hid hT
  clear h hT
  by_cases h0 : chkX c n l = 0
  case neg =>
    rw [putX, if_neg h0]
    have H0 := hid h0
    clear h0
    go_enter Tryz.func168, Tryz.ntmps168
    go_wp2_with fail
    refine (checkX_any c n (HT.out _ A.out.tail.tail) (by omega)).mono ?_
    rintro e w1 ⟨rfl, B⟩
    have A := hid (A.out.later B)
    clear B
    have h0 := H0.out
    generalize chkX c n l = ck at h0 ⊢
    have e0 : (ck != 0) = true := by simpa using h0
    clear h0
    go_wp2_with fail
    refine (numW A.out.swap (-1) (by omega) (by omega)).mono ?_
    rintro e w2 ⟨rfl, v2, A2⟩
    have A2 := hid A2
    clear A
    go_wp2
    refine bodyPost_ret (results_none rfl _ _ _) rfl ?_
    exact ⟨rfl, v2, A2.out.swap.tail⟩
  rw [putX, if_pos h0]
  have H0 := hid h0
  clear h0
  by_cases hc0 : c = 0
  · subst hc0
    rw [if_pos rfl]
    go_enter Tryz.func168, Tryz.ntmps168
    go_wp2_with fail
    refine (checkX_any 0 n (HT.out _ A.out.tail.tail) (by omega)).mono ?_
    rw [H0.out]
    rintro e w1 ⟨rfl, B⟩
    have A := hid (A.out.later B).swap
    clear B H0
    have hb := A.out.blk (g := w.heap.size) (vs := [.int .i64 0, .int .i64 n, .slice ao l.length cp]) (t := 56) mem2
    have o0 : w1.cell? ⟨w.heap.size, 0, none⟩ = some (.int .i64 0) := by rw [cell_at hb]; rfl
    clear hb
    go_wp2_with fail
    refine (numW A.out 0 (by omega) (by omega)).mono ?_
    rintro e w2 ⟨rfl, v2, A2⟩
    have A := hid A2
    have L := hid (lenS_num st 0)
    clear A2 o0
    have hb := A.out.blk (g := w.heap.size) (vs := [.int .i64 0, .int .i64 n, .slice ao l.length cp]) (t := 56) mem2
    have o0 : w2.cell? ⟨w.heap.size, 0, none⟩ = some (.int .i64 0) := by rw [cell_at hb]; rfl
    have o1 : w2.cell? ⟨w.heap.size, 1, none⟩ = some (.int .i64 n) := by rw [cell_at hb]; rfl
    clear hb
    go_wp2_with fail
    refine (numW A.out n (by omega) (by have := L.out; omega)).mono ?_
    rintro e w3 ⟨rfl, v3, A2⟩
    have A := hid A2
    have L := hid (Nat.le_trans (lenS_num (numS st 0) n) (Nat.add_le_add_right L.out 10))
    clear A2 o0 o1
    have hb := A.out.blk (g := w.heap.size) (vs := [.int .i64 0, .int .i64 n, .slice ao l.length cp]) (t := 56) mem2
    have o2 : w3.cell? ⟨w.heap.size, 2, none⟩ = some (.slice ao l.length cp) := by rw [cell_at hb]; rfl
    clear hb
    go_wp2_with fail
    refine (putItems_any A.out (fun w' hw' => HT.out w' hw'.tail) (by have := L.out; omega) hl).mono ?_
    rintro e w4 ⟨rfl, v4, A2⟩
    have A := hid A2
    clear A2 o2
    go_wp2
    go_end0
    exact ⟨rfl, v4, A.out.swap.tail⟩
  · rw [if_neg hc0]
    have ec : (c == 0) = false := by rw [beq_eq_false_iff_ne]; exact hc0
    go_enter Tryz.func168, Tryz.ntmps168
    go_wp2_with fail
    refine (checkX_any c n (HT.out _ A.out.tail.tail) (by omega)).mono ?_
    rw [H0.out]
    rintro e w1 ⟨rfl, B⟩
    have A := hid (A.out.later B).swap
    clear B H0
    have hb := A.out.blk (g := w.heap.size) (vs := [.int .i64 c, .int .i64 n, .slice ao l.length cp]) (t := 56) mem2
    have o0 : w1.cell? ⟨w.heap.size, 0, none⟩ = some (.int .i64 c) := by rw [cell_at hb]; rfl
    clear hb
    go_wp2_with fail
    refine (numW A.out c (by omega) (by omega)).mono ?_
    rintro e w2 ⟨rfl, v2, A2⟩
    have A := hid A2
    clear A2 o0
    have hb := A.out.blk (g := w.heap.size) (vs := [.int .i64 c, .int .i64 n, .slice ao l.length cp]) (t := 56) mem2
    have o0 : w2.cell? ⟨w.heap.size, 0, none⟩ = some (.int .i64 c) := by rw [cell_at hb]; rfl
    clear hb
    go_wp2
    go_end0
    exact ⟨rfl, v2, A.out.swap.tail⟩

set_option maxHeartbeats 1600000 in
set_option maxRecDepth 1000000 in
theorem rputR_any {b : Nat} {v : Value} {st : Option (List UInt8)} {s : Value} {l : List ByteArray} {cs : List Comp} {w : World} (h : All (xwC b v st :: cs) w) (hT : ∀ w', All cs w' → Txts w' s l) (c n : Int) (hc : c < 9223372036854775808) (hn : n < 9223372036854775808) (hlen : lenS st + bulkT l + 100 ≤ 140737488355328) (hl : l.length ≤ 1099511627776) :
    Calls Tryz.prog 178 #[.pointer (some ⟨b, 0, none⟩), resV c n s] w fun e w' => e = .returned (.tuple #[]) ∧ ∃ v', All (xwC b v' (putX st c n l) :: cs) w' := by
  obtain ⟨ao, cp, rfl⟩ := (hT w h.tail).form
  have A := hid (h.addBlk [.int .i64 c, .int .i64 n, .slice ao l.length cp] 56)
  have HT := hid hT
  clear h hT
  by_cases h0 : chkX c n l = 0
  case neg =>
    rw [putX, if_neg h0]
    have H0 := hid h0
    clear h0
    go_enter Tryz.func178, Tryz.ntmps178
    go_wp2_with fail
    refine (checkX_ref c n (HT.out _ A.out.tail.tail) (by omega)).mono ?_
    rintro e w1 ⟨rfl, B⟩
    have A := hid (A.out.later B)
    clear B
    have h0 := H0.out
    generalize chkX c n l = ck at h0 ⊢
    have e0 : (ck != 0) = true := by simpa using h0
    clear h0
    go_wp2_with fail
    refine (xnumW A.out.swap (-1) (by omega) (by omega)).mono ?_
    rintro e w2 ⟨rfl, v2, A2⟩
    have A2 := hid A2
    clear A
    go_wp2
    refine bodyPost_ret (results_none rfl _ _ _) rfl ?_
    exact ⟨rfl, v2, A2.out.swap.tail⟩
  rw [putX, if_pos h0]
  have H0 := hid h0
  clear h0
  by_cases hc0 : c = 0
  · subst hc0
    rw [if_pos rfl]
    go_enter Tryz.func178, Tryz.ntmps178
    go_wp2_with fail
    refine (checkX_ref 0 n (HT.out _ A.out.tail.tail) (by omega)).mono ?_
    rw [H0.out]
    rintro e w1 ⟨rfl, B⟩
    have A := hid (A.out.later B).swap
    clear B H0
    have hb := A.out.blk (g := w.heap.size) (vs := [.int .i64 0, .int .i64 n, .slice ao l.length cp]) (t := 56) mem2
    have o0 : w1.cell? ⟨w.heap.size, 0, none⟩ = some (.int .i64 0) := by rw [cell_at hb]; rfl
    clear hb
    go_wp2_with fail
    refine (xnumW A.out 0 (by omega) (by omega)).mono ?_
    rintro e w2 ⟨rfl, v2, A2⟩
    have A := hid A2
    have L := hid (lenS_num st 0)
    clear A2 o0
    have hb := A.out.blk (g := w.heap.size) (vs := [.int .i64 0, .int .i64 n, .slice ao l.length cp]) (t := 56) mem2
    have o0 : w2.cell? ⟨w.heap.size, 0, none⟩ = some (.int .i64 0) := by rw [cell_at hb]; rfl
    have o1 : w2.cell? ⟨w.heap.size, 1, none⟩ = some (.int .i64 n) := by rw [cell_at hb]; rfl
    clear hb
    go_wp2_with fail
    refine (xnumW A.out n (by omega) (by have := L.out; omega)).mono ?_
    rintro e w3 ⟨rfl, v3, A2⟩
    have A := hid A2
    have L := hid (Nat.le_trans (lenS_num (numS st 0) n) (Nat.add_le_add_right L.out 10))
    clear A2 o0 o1
    have hb := A.out.blk (g := w.heap.size) (vs := [.int .i64 0, .int .i64 n, .slice ao l.length cp]) (t := 56) mem2
    have o2 : w3.cell? ⟨w.heap.size, 2, none⟩ = some (.slice ao l.length cp) := by rw [cell_at hb]; rfl
    clear hb
    go_wp2_with fail
    refine (xnatW A.out l.length (by omega) (by have := L.out; omega)).mono ?_
    rintro e w4 ⟨rfl, v4, A2⟩
    have A := hid A2
    clear A2 o2
    generalize hST : numS (numS st 0) n = st2 at A L
    have HST := hid hST
    clear hST
    go_wp2
    go_loopw [4] (fun iv wr => ∃ (k : Nat) (v' : Value), iv = .int .i64 (k : Int) ∧ k ≤ l.length ∧ Hid (All (xwC b v' (addS st2 (enc 9 l.length ++ textsB (l.take k))) :: blkC w.heap.size [.int .i64 0, .int .i64 n, .slice ao l.length cp] 56 :: cs) wr)) (fun iv _ => l.length - (intOf iv).toNat)
    case atStart => exact ⟨0, v4, rfl, Nat.zero_le _, by simpa [textsB] using A⟩
    case round =>
      obtain ⟨k, v', rfl, hk, AR⟩ := hrel
      clear A
      have hb := AR.out.blk (g := w.heap.size) (vs := [.int .i64 0, .int .i64 n, .slice ao l.length cp]) (t := 56) mem2
      have o2 : wr.cell? ⟨w.heap.size, 2, none⟩ = some (.slice ao l.length cp) := by rw [cell_at hb]; rfl
      clear hb
      by_cases hlt : k < l.length
      · obtain ⟨g, o, ea, hg, hcell⟩ := (HT.out wr AR.out.tail.tail).at hlt
        subst ea
        have el : decide ((k : Int) < (l.length : Int)) = true := by simpa using hlt
        have HB : Hid (lenS (addS st2 (enc 9 l.length ++ textsB (l.take k))) + l[k].size + 10 ≤ 140737488355328) := by
          have h1 := lenS_addS st2 (enc 9 l.length ++ textsB (l.take k))
          have h2 := bulkT_take hlt
          have h3 := enc_len 9 l.length
          have h4 := L.out
          rw [List.length_append] at h1
          show _ ≤ _
          omega
        go_wp2_with fail
        refine (xtextW AR.out _ HB.out).mono ?_
        rintro e w5 ⟨rfl, v5, A2⟩
        rw [addS_addS, List.append_assoc, ← textsB_take hlt] at A2
        have A2 := hid A2
        clear AR HB o2
        go_wp2
        go_roundw
        case rel => exact ⟨k + 1, v5, by go_num, by omega, A2⟩
        case measure => simp [intOf]; omega
      · have el : decide ((k : Int) < (l.length : Int)) = false := by simp; omega
        go_wp2
        go_end0
        refine ⟨rfl, v', ?_⟩
        have := AR.out.swap.tail
        rw [List.take_of_length_le (by omega), ← HST.out] at this
        exact this
  · rw [if_neg hc0]
    have ec : (c != 0) = true := by simpa using hc0
    go_enter Tryz.func178, Tryz.ntmps178
    go_wp2_with fail
    refine (checkX_ref c n (HT.out _ A.out.tail.tail) (by omega)).mono ?_
    rw [H0.out]
    rintro e w1 ⟨rfl, B⟩
    have A := hid (A.out.later B).swap
    clear B H0
    have hb := A.out.blk (g := w.heap.size) (vs := [.int .i64 c, .int .i64 n, .slice ao l.length cp]) (t := 56) mem2
    have o0 : w1.cell? ⟨w.heap.size, 0, none⟩ = some (.int .i64 c) := by rw [cell_at hb]; rfl
    clear hb
    go_wp2_with fail
    refine (xnumW A.out c (by omega) (by omega)).mono ?_
    rintro e w2 ⟨rfl, v2, A2⟩
    have A := hid A2
    clear A2 o0
    have hb := A.out.blk (g := w.heap.size) (vs := [.int .i64 c, .int .i64 n, .slice ao l.length cp]) (t := 56) mem2
    have o0 : w2.cell? ⟨w.heap.size, 0, none⟩ = some (.int .i64 c) := by rw [cell_at hb]; rfl
    clear hb
    go_wp2
    refine bodyPost_ret (results_none rfl _ _ _) rfl ?_
    exact ⟨rfl, v2, A.out.swap.tail⟩
end Go.Proofs.YtafickhhdemjnaaGreatDoor

namespace Go.Proofs.YtafickhhdemjnaaGreatDoor
open Go.RowKit
set_option linter.unusedVariables false

/-- What a reader has left, where it is, whether it is broken. -/
structure Rst where
  rs : List UInt8
  place : Nat
  err : Int
/-- A reader, as a part. -/
def rdC (b : Nat) (D : Option Nat) (rv : Value) (r : Rst) : Comp := ⟨fun w => Rd w b D rv r.rs r.place r.err, b :: D.toList⟩
theorem rdC_good (b : Nat) (D : Option Nat) (rv : Value) (r : Rst) : (rdC b D rv r).Good := fun w w' h hl hk =>
  Rd.kept h hl.size (hk b (by simp [rdC])) (fun k hk' => hk k (by simp [rdC, h.own k hk']))
theorem All.rstep {b : Nat} {D : Option Nat} {rv rv' : Value} {r r' : Rst} {cs : List Comp} {w w' : World} (h : All (rdC b D rv r :: cs) w) (h1 : Rd w' b D rv' r'.rs r'.place r'.err) (h2 : Only b w w') : All (rdC b D rv' r' :: cs) w' := by
  refine h.turn ⟨h2.os, h2.tape, h2.output, h2.size, fun k hk hn => ?_⟩ (rdC_good _ _ _ _) h1 (fun k hk => Or.inl hk) (fun k hk => ?_)
  · simp [rdC] at hn
    exact h2.block k hk hn.1
  · simp [rdC] at hk
    rcases hk with rfl | hk
    · exact h1.lt
    · exact h1.old k hk

/-- Behind a number, a text, a failure. -/
def Rst.aft (r : Rst) (size : Nat) (e : Int) : Rst := ⟨(Go.Proofs.YtafickhhdemjnaaGreatDoor.aft r.rs r.place r.err size e).1, (Go.Proofs.YtafickhhdemjnaaGreatDoor.aft r.rs r.place r.err size e).2.1, (Go.Proofs.YtafickhhdemjnaaGreatDoor.aft r.rs r.place r.err size e).2.2⟩
def Rst.num (r : Rst) (most : Int) : Rst := r.aft (numR r.rs most 13).2.1 (numR r.rs most 13).2.2
def Rst.numV (r : Rst) (most : Int) : Int := (numR r.rs most 13).1
def Rst.txt (r : Rst) (most : Int) : Rst := r.aft (runR r.rs most).2.1 (runR r.rs most).2.2
def Rst.txtV (r : Rst) (most : Int) : ByteArray := strB (runR r.rs most).1
def Rst.fail (r : Rst) (e : Int) : Rst := if e = 0 then r else ⟨[], r.place, keepE r.err e⟩

theorem numRd {b : Nat} {D : Option Nat} {rv : Value} {r : Rst} {cs : List Comp} {w : World} (h : All (rdC b D rv r :: cs) w) (hp : r.place + r.rs.length ≤ 140737488355328) (most : Int) : Calls Tryz.prog 198 #[.pointer (some ⟨b, 0, none⟩), .int .i64 most] w fun e w' => e = .returned (.int .i64 (r.numV most)) ∧ ∃ rv', All (rdC b D rv' (r.num most) :: cs) w' :=
  (Num_any h.1.2.1 hp most).mono fun e w' ⟨h1, ⟨rv', h2⟩, h3⟩ => ⟨h1, rv', h.rstep h2 h3⟩
theorem textRd {b : Nat} {D : Option Nat} {rv : Value} {r : Rst} {cs : List Comp} {w : World} (h : All (rdC b D rv r :: cs) w) (hp : r.place + r.rs.length ≤ 140737488355328) (most : Int) : Calls Tryz.prog 197 #[.pointer (some ⟨b, 0, none⟩), .int .i64 most] w fun e w' => e = .returned (.string (r.txtV most)) ∧ ∃ rv', All (rdC b D rv' (r.txt most) :: cs) w' :=
  (Text_any h.1.2.1 hp most).mono fun e w' ⟨h1, ⟨rv', h2⟩, h3⟩ => ⟨h1, rv', h.rstep h2 h3⟩
theorem errRd {b : Nat} {D : Option Nat} {rv : Value} {r : Rst} {cs : List Comp} {w : World} (h : All (rdC b D rv r :: cs) w) : Calls Tryz.prog 225 #[.pointer (some ⟨b, 0, none⟩)] w fun e w' => e = .returned (.tuple #[.int .i64 r.err, .int .i64 (r.place : Int)]) ∧ All (rdC b D rv r :: cs) w' :=
  (Err_any h.1.2.1).mono fun e w' ⟨h1, h2⟩ => ⟨h1, h.later h2⟩

set_option maxRecDepth 1000000 in
theorem fail0 {b : Nat} {D : Option Nat} {rv : Value} {rs : List UInt8} {place : Nat} {err : Int} {w : World} (h : Rd w b D rv rs place err) : Calls Tryz.prog 200 #[.pointer (some ⟨b, 0, none⟩), .int .i64 0] w fun e w' => e = .returned (.tuple #[]) ∧ w' = w := by
  have c2 : w.cell? ⟨b, 2, none⟩ = some (.int .i64 err) := by rw [cell_at h.box]; rfl
  clear h
  by_cases hz : err = 0
  · subst hz
    go_enter Tryz.func200, Tryz.ntmps200
    go_wp2
    go_end0
    exact ⟨rfl, rfl⟩
  · have hb1 : (err == 0) = false := by simpa using hz
    go_enter Tryz.func200, Tryz.ntmps200
    go_wp2
    go_end0
    exact ⟨rfl, rfl⟩
theorem failRd {b : Nat} {D : Option Nat} {rv : Value} {r : Rst} {cs : List Comp} {w : World} (h : All (rdC b D rv r :: cs) w) (e0 : Int) : Calls Tryz.prog 200 #[.pointer (some ⟨b, 0, none⟩), .int .i64 e0] w fun e w' => e = .returned (.tuple #[]) ∧ ∃ rv', All (rdC b D rv' (r.fail e0) :: cs) w' := by
  by_cases he : e0 = 0
  · subst he
    refine (fail0 h.1.2.1).mono ?_
    rintro e w' ⟨h1, rfl⟩
    refine ⟨h1, rv, ?_⟩
    rw [Rst.fail, if_pos rfl]
    exact h
  · refine (rfail_any h.1.2.1 e0 he).mono ?_
    rintro e w' ⟨h1, ⟨rv', h2⟩, h3⟩
    refine ⟨h1, rv', h.rstep ?_ h3⟩
    rw [Rst.fail, if_neg he]
    exact h2

set_option maxRecDepth 1000000 in
theorem wholeRd {b : Nat} {D : Option Nat} {rv : Value} {r : Rst} {cs : List Comp} {w : World} (h : All (rdC b D rv r :: cs) w) : Calls Tryz.prog 219 #[.pointer (some ⟨b, 0, none⟩)] w fun e w' => e = .returned (.bool (r.err == 0)) ∧ All (rdC b D rv r :: cs) w' := by
  have HH := hid h
  clear h
  go_enter Tryz.func219, Tryz.ntmps219
  go_wp2_with fail
  refine (errRd HH.out).mono ?_
  rintro e w1 ⟨rfl, A1⟩
  have A1 := hid A1
  clear HH
  go_wp2
  go_ret
  exact ⟨rfl, A1.out⟩
end Go.Proofs.YtafickhhdemjnaaGreatDoor
