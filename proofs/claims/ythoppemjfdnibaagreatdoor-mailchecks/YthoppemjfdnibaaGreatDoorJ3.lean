import Derived.Test.YthoppemjfdnibaaGreatDoorJ1
import Derived.Test.YthoppemjfdnibaaGreatDoorPure
namespace Go.Proofs.YthoppemjfdnibaaGreatDoor
open Go.RowKit
set_option linter.unusedVariables false

theorem or_cell (m : Nat) : bits BinOp.or IntKind.u8 ((m : Int) % 256) 128 = ((UInt8.ofNat (m % 128 + 128)).toNat : Int) := by
  rw [u8_or _ _ (by omega) (by omega) (by omega) (by omega), toNat_of128, ← or128]
  congr 2

theorem low_cell (m : Nat) (h : m < 128) : ((m : Int) % 256) = ((UInt8.ofNat m).toNat : Int) := by
  rw [toNat_small m h]; omega

theorem rel_step {f m n : Nat} {pre : List UInt8} (hm : m < 128 ^ (f + 1)) (hlt : 128 ≤ m) (hpf : pre.length + f = 9) (he : pre ++ enc f m = enc 9 n) :
    ∃ f', f = f' + 1 ∧ m / 128 < 128 ^ (f' + 1) ∧ (pre ++ [UInt8.ofNat (m % 128 + 128)]).length + f' = 9 ∧ (pre ++ [UInt8.ofNat (m % 128 + 128)]) ++ enc f' (m / 128) = enc 9 n := by
  cases f with
  | zero => simp at hm; omega
  | succ f =>
    refine ⟨f, rfl, ?_, ?_, ?_⟩
    · rw [Nat.div_lt_iff_lt_mul (by omega)]; rw [Nat.pow_succ] at hm; exact hm
    · simp; omega
    · rw [← he, enc_step f m (by omega)]; simp

set_option maxHeartbeats 1600000 in
set_option maxRecDepth 1000000 in
theorem groups_any {w : World} {b : Nat} {v : Value} {st : Option (List UInt8)} (h : Wst w b v st) (n : Nat) (hn : n < 18446744073709551616) (hlen : lenS st + 10 ≤ 140737488355328) :
    Calls Tryz.prog 113 #[.pointer (some ⟨b, 0, none⟩), .int .u64 (n : Int)] w fun e w' => e = .returned (.tuple #[]) ∧ ∃ v', Wst w' b v' (addS st (enc 9 n)) ∧ WStep b w v w' v' := by
  have HH : Hid (Wst w b v st) := h; clear h
  go_enter Tryz.func113, Tryz.ntmps113
  go_wp2
  go_loopw [1] (fun nv wr => ∃ (f m : Nat) (pre : List UInt8) (v' : Value), nv = .int .u64 (m : Int) ∧ m < 128 ^ (f + 1) ∧ m < 18446744073709551616 ∧ pre.length + f = 9 ∧ Hid (pre ++ enc f m = enc 9 n) ∧ Hid (Wst wr b v' (addS st pre)) ∧ WStep b w v wr v') (fun nv _ => (intOf nv).toNat)
  case atStart => exact ⟨9, n, [], v, rfl, by omega, hn, rfl, by simp [Hid], by simpa [addS_nil] using HH, WStep.refl _ _ _⟩
  case round =>
    obtain ⟨f, m, pre, v', rfl, hm, hm64, hpf, he, hst, hstep⟩ := hrel
    have hl := lenS_addS st pre
    by_cases hlt : 128 ≤ m
    · obtain ⟨f', hf, hm', hpf', he'⟩ := rel_step hm hlt hpf he.out
      have He' : Hid _ := he'
      have Hm' : Hid _ := hm'
      have Hp' : Hid _ := hpf'
      clear he' hm' hf hpf' he hm
      go_wp2_with fail
      refine (put_any (hst.out.alloc _) (Reads.one wr (UInt8.ofNat (m % 128 + 128)) _ (or_cell m)) (by simp; omega)).mono ?_
      rintro e w1 ⟨rfl, v1, h1, h2⟩
      have H1 : Hid _ := h1
      have H2 : Hid _ := h2
      clear h1 h2
      go_wp2
      go_roundw
      case rel => exact ⟨f', m / 128, _, v1, by go_num, Hm'.out, by omega, Hp'.out, He'.out, by rw [← addS_addS]; exact H1.out, hstep.trans ((WStep.alloc _).trans H2.out)⟩
      case measure => simp [intOf]; omega
    · go_wp2_with fail
      have h128 : m < 128 := by omega
      refine (put_any (hst.out.alloc _) (Reads.one wr (UInt8.ofNat m) _ (by rw [toNat_small m h128])) (by simp; omega)).mono ?_
      rintro e w1 ⟨rfl, v1, h1, h2⟩
      have H1 : Hid _ := h1
      have H2 : Hid _ := h2
      clear h1 h2
      go_wp2
      go_end0
      refine ⟨rfl, v1, ?_, hstep.trans ((WStep.alloc _).trans H2.out)⟩
      rw [← he.out, enc_small f m h128, ← addS_addS]
      exact H1.out

set_option maxHeartbeats 800000 in
set_option maxRecDepth 1000000 in
theorem fail_any {w : World} {b : Nat} {v : Value} {st : Option (List UInt8)} (h : Wst w b v st) :
    Calls Tryz.prog 112 #[.pointer (some ⟨b, 0, none⟩)] w fun e w' => e = .returned (.tuple #[]) ∧ ∃ v', Wst w' b v' none ∧ WStep b w v w' v' := by
  obtain ⟨t, hbox⟩ : ∃ t, w.heap[b]? = some (.cells #[v, t] 99 (0, 0)) := by
    cases st with
    | none => exact ⟨_, h.2⟩
    | some bs => exact ⟨_, h.box⟩
  have c0 : w.cell? ⟨b, 0, none⟩ = some v := by rw [cell_at hbox]; rfl
  have c1 : w.cell? ⟨b, 1, none⟩ = some t := by rw [cell_at hbox]; rfl
  have f0 := free_at hbox 0
  have f1 := free_at hbox 1
  have R : Hid (Wst ((w.setCell ⟨b, 0, none⟩ (.slice none 0 0)).setCell ⟨b, 1, none⟩ (.bool true)) b (.slice none 0 0) none ∧ WStep b w v ((w.setCell ⟨b, 0, none⟩ (.slice none 0 0)).setCell ⟨b, 1, none⟩ (.bool true)) (.slice none 0 0)) := by
    refine ⟨⟨rfl, ?_⟩, ⟨rfl, rfl, rfl, by simp [World.setCell], ?_, fun k hk => by simp [Value.ownBlock] at hk⟩⟩
    · rw [heap_setCell_same (heap_setCell_same hbox _)]; rfl
    · intro k hk hkb hkv
      rw [Below.heap_setCell _ _ _ _ (by simpa using hkb), Below.heap_setCell _ _ _ _ (by simpa using hkb)]
  clear h hbox
  go_enter Tryz.func112, Tryz.ntmps112
  go_wp2
  go_end0
  exact ⟨rfl, _, R.out⟩

/-- What Num writes. -/
def numS (st : Option (List UInt8)) (n : Int) : Option (List UInt8) := if n < 0 then none else addS st (enc 9 n.toNat)

set_option maxHeartbeats 800000 in
set_option maxRecDepth 1000000 in
theorem num_any {w : World} {b : Nat} {v : Value} {st : Option (List UInt8)} (h : Wst w b v st) (n : Int) (hn : n < 9223372036854775808) (hlen : lenS st + 10 ≤ 140737488355328) :
    Calls Tryz.prog 82 #[.pointer (some ⟨b, 0, none⟩), .int .i64 n] w fun e w' => e = .returned (.tuple #[]) ∧ ∃ v', Wst w' b v' (numS st n) ∧ WStep b w v w' v' := by
  have HH : Hid (Wst w b v st) := h; clear h
  by_cases h0 : n < 0
  · go_enter Tryz.func82, Tryz.ntmps82
    go_wp2_with fail
    refine (fail_any HH.out).mono ?_
    rintro e w1 ⟨rfl, v1, h1, h2⟩
    have H1 : Hid _ := h1
    have H2 : Hid _ := h2
    clear h1 h2
    go_wp2
    refine bodyPost_ret (results_none rfl _ _ _) rfl ?_
    refine ⟨rfl, v1, ?_, H2.out⟩
    unfold numS
    rw [if_pos h0]
    exact H1.out
  · obtain ⟨m, rfl⟩ := Int.eq_ofNat_of_zero_le (Int.not_lt.1 h0)
    go_enter Tryz.func82, Tryz.ntmps82
    go_wp2_with fail
    refine (groups_any HH.out m (by omega) hlen).mono ?_
    rintro e w1 ⟨rfl, v1, h1, h2⟩
    have H1 : Hid _ := h1
    have H2 : Hid _ := h2
    clear h1 h2
    go_wp2
    go_end0
    refine ⟨rfl, v1, ?_, H2.out⟩
    unfold numS
    rw [if_neg (by omega)]
    exact H1.out

theorem fold_neg (n : Int) (h0 : n < 0) (h1 : -9223372036854775808 ≤ n) : bits BinOp.xor IntKind.u64 IntKind.u64.max (IntKind.u64.wrap (IntKind.u64.wrap n * 2)) = (foldN n : Int) := by
  have e0 : IntKind.u64.max = 18446744073709551615 := by decide
  rw [e0, IntKind.wrap_u64, IntKind.wrap_u64, u64_xor _ _ (by omega) (by omega) (by omega) (by omega)]
  have e1 : (18446744073709551615 : Int).toNat = 2 ^ 64 - 1 := by decide
  have e2 : (n % 18446744073709551616 * 2 % 18446744073709551616).toNat < 2 ^ 64 := by omega
  rw [e1, xor_ones _ e2]
  unfold foldN
  rw [if_pos h0]
  omega

theorem foldN_pos (n : Int) (h0 : 0 ≤ n) : n * 2 = (foldN n : Int) := by
  unfold foldN; rw [if_neg (by omega)]; omega

theorem foldN_lt (n : Int) (h1 : -9223372036854775808 ≤ n) (h2 : n < 9223372036854775808) : foldN n < 18446744073709551616 := by
  unfold foldN; split <;> omega

theorem ret_int {k : IntKind} {a b : Int} (h : a = b) : Ending.returned (.int k a) = .returned (.int k b) := by rw [h]

theorem WStep.apart {b : Nat} {w w' : World} {v v' s : Value} {l : List UInt8} (h : WStep b w v w' v') (hr : Reads w s l) (hs : ∀ k, s.ownBlock = some k → k ≠ b ∧ v.ownBlock ≠ some k) : ∀ k, s.ownBlock = some k → k ≠ b ∧ v'.ownBlock ≠ some k := by
  intro k hk
  refine ⟨(hs k hk).1, fun e => ?_⟩
  rcases h.own k e with e | e
  · exact (hs k hk).2 e
  · have := hr.block k hk; omega

set_option maxHeartbeats 800000 in
set_option maxRecDepth 1000000 in
theorem bytes_any {w : World} {b : Nat} {v : Value} {st : Option (List UInt8)} (h : Wst w b v st) {s : Value} {l : List UInt8} (hr : Reads w s l) (hs : ∀ k, s.ownBlock = some k → k ≠ b ∧ v.ownBlock ≠ some k) (hlen : lenS st + l.length + 10 ≤ 140737488355328) :
    Calls Tryz.prog 154 #[.pointer (some ⟨b, 0, none⟩), s] w fun e w' => e = .returned (.tuple #[]) ∧ ∃ v', Wst w' b v' (addS st (enc 9 l.length ++ l)) ∧ WStep b w v w' v' := by
  have HH : Hid (Wst w b v st) := h; clear h
  have HR : Hid (Reads w s l) := hr
  have HS : Hid (∀ k, s.ownBlock = some k → k ≠ b ∧ v.ownBlock ≠ some k) := hs
  obtain ⟨ao, c, rfl, _, _⟩ := hr
  clear hs
  go_enter Tryz.func154, Tryz.ntmps154
  go_wp2_with fail
  refine (num_any HH.out (l.length : Int) (by omega) (by omega)).mono ?_
  rintro e w1 ⟨rfl, v1, h3, h4⟩
  have HR1 : Hid _ := HR.out.step h4 HS.out
  have e1 : numS st (l.length : Int) = addS st (enc 9 l.length) := by unfold numS; rw [if_neg (by omega)]; simp
  rw [e1] at h3
  have H1 : Hid _ := h3
  have H2 : Hid _ := h4
  clear h3 h4 e1
  go_wp2_with fail
  refine (put_any H1.out HR1.out (by have := lenS_addS st (enc 9 l.length); have := enc_len 9 l.length; omega)).mono ?_
  rintro e w2 ⟨rfl, v2, h3, h4⟩
  rw [addS_addS] at h3
  have H3 : Hid _ := h3
  have H4 : Hid _ := h4
  clear h3 h4
  go_wp2
  go_end0
  exact ⟨rfl, v2, H3.out, H2.out.trans H4.out⟩

end Go.Proofs.YthoppemjfdnibaaGreatDoor

namespace Go.Proofs.YthoppemjfdnibaaGreatDoor
open Go.RowKit
set_option linter.unusedVariables false

theorem Reads.ofString (w : World) (s : ByteArray) (cap : Nat) (fr : Nat × Nat) (hc : s.size ≤ cap) : Reads (w.alloc (.cells (bytesRow s cap) 5 fr)).drew (.slice (some ⟨w.heap.size, 0, none⟩) s.size cap) s.data.toList := by
  refine ⟨_, _, rfl, hc, Or.inr ⟨_, _, rfl, by show w.heap.size < (w.alloc _).heap.size; simp, ?_⟩⟩
  intro j u hu
  have hj : j < s.data.size := by
    have := (List.getElem?_eq_some_iff.1 hu).1
    simpa [cellsB] using this
  show (w.alloc _).cell? _ = _
  rw [cell_at (heap_alloc_new w _), Nat.zero_add, bytesRow_at s cap j hj]
  rw [← hu]
  simp only [cellsB, List.getElem?_map, Array.getElem?_toList, Array.getElem?_eq_getElem hj]
  rfl

set_option maxHeartbeats 800000 in
set_option maxRecDepth 1000000 in
theorem text_any {w : World} {b : Nat} {v : Value} {st : Option (List UInt8)} (h : Wst w b v st) (s : ByteArray) (hlen : lenS st + s.size + 10 ≤ 140737488355328) :
    Calls Tryz.prog 165 #[.pointer (some ⟨b, 0, none⟩), .string s] w fun e w' => e = .returned (.tuple #[]) ∧ ∃ v', Wst w' b v' (addS st (enc 9 s.size ++ s.data.toList)) ∧ WStep b w v w' v' := by
  have HH : Hid (Wst w b v st) := h; clear h
  have hcv := fun w s => run_bytes_of_string (P := Tryz.prog) w 9 40 5 s Tryz.underlying9 Tryz.underlying40 Tryz.underlying5
  go_enter Tryz.func165, Tryz.ntmps165
  go_wp2_with fail
  have hb : Below w.heap.size w (w.alloc (.cells (bytesRow s (grownCap w s.size 0 5)) 5 ((bytesRow s (grownCap w s.size 0 5)).size, (bytesRow s (grownCap w s.size 0 5)).size + 1))).drew := ((Below.refl _ _).alloc (Nat.le_refl _) _).drew
  have hlt := HH.out.lt
  have hown := HH.out.own_lt
  refine (bytes_any (HH.out.below hb) (Reads.ofString w s _ _ (grownCap_ge w s.size 0 5)) ?_ ?_).mono ?_
  · intro k hk
    simp [Value.ownBlock] at hk
    subst hk
    refine ⟨by omega, fun e => ?_⟩
    have := (hown _ e).2
    omega
  · have : s.data.toList.length = s.size := rfl
    omega
  rintro e w1 ⟨rfl, v1, h3, h4⟩
  have H1 : Hid _ := h3
  have H2 : Hid _ := (WStep.of_below hb).trans h4
  clear h3 h4 hb hown hlt
  go_wp2
  go_end0
  exact ⟨rfl, v1, H1.out, H2.out⟩

set_option maxHeartbeats 800000 in
set_option maxRecDepth 1000000 in
theorem clone_some {w : World} (g o c : Nat) (l : List UInt8) (hc : ∀ j u, (cellsB l)[j]? = some u → w.cell? ⟨g, o + j, none⟩ = some u) (hg : g < w.heap.size) (hlen : l.length ≤ 140737488355328) :
    Calls Tryz.prog 84 #[.slice (some ⟨g, o, none⟩) l.length c] w fun e w' => ∃ s', e = .returned s' ∧ w'.ownsRow w.heap.size 5 1 s' l.length (cellsB l) ∧ Below w.heap.size w w' := by
  obtain ⟨i0, hi, hz0, hz1, hz2⟩ := info_parts Tryz.info5
  have he := fun w => Lib.run_eql_slice_nil (P := Tryz.prog) w 40 5 (some ⟨g, o, none⟩) l.length c 0 0 Tryz.underlying40
  have hnews : ∀ j u, (cellsB l)[j]? = some u → (w.alloc (.cells #[] 5)).cell? ((⟨g, o, none⟩ : Addr).add j) = some u := by
    intro j u hu
    rw [Addr.add_lit, World.cell?_alloc_past _ _ _ hg]
    exact hc j u hu
  clear hc
  have h0 : (w.alloc (.cells #[] 5)).ownsRow w.heap.size 5 1 (.slice (some ⟨w.heap.size, 0, none⟩) 0 0) 0 [] := World.ownsRow_made w #[] 0 (Nat.le_refl _) (by unfold maxLen; omega) rfl
  go_enter Tryz.func84, Tryz.ntmps84
  go_wp2_with (at_builtin; refine wpList_append_own_at _ rfl (.tmp 5) (.tmp 6) 40 rfl w.heap.size 5 i0 (.int .u8 0) 1 1 Tryz.underlying40 hi hz0 hz1 hz2 rfl (by decide) _ _ _ rfl h0 ⟨g, o, none⟩ l.length c (cellsB l) rfl (by rw [cellsB_length]; omega) hnews (cellsB_one _) (by unfold maxLen; omega) (by omega) (by simp) ?_)
  intro v' w1 hown hgr hnil hat
  have R : Hid (w1.ownsRow w.heap.size 5 1 v' l.length (cellsB l) ∧ Below w.heap.size w w1) := by
    refine ⟨by simpa using hown, ((Below.refl _ _).alloc (Nat.le_refl _) _).grown hgr (by simp) (fun k hk => ?_)⟩
    simp [Value.ownBlock] at hk
    omega
  clear hown hgr hnil hat h0
  go_wp2
  go_ret
  exact ⟨v', rfl, R.out.1, R.out.2⟩

set_option maxHeartbeats 800000 in
set_option maxRecDepth 1000000 in
theorem clone_none {w : World} :
    Calls Tryz.prog 84 #[.slice none 0 0] w fun e w' => e = .returned (.slice none 0 0) ∧ w' = w := by
  have he := fun w => Lib.run_eql_slice_nil (P := Tryz.prog) w 40 5 none 0 0 0 0 Tryz.underlying40
  go_enter Tryz.func84, Tryz.ntmps84
  go_wp2
  go_ret
  exact ⟨rfl, rfl⟩

theorem clone_any {w : World} {s : Value} {l : List UInt8} (h : Reads w s l) (hlen : l.length ≤ 140737488355328) :
    Calls Tryz.prog 84 #[s] w fun e w' => ∃ s', e = .returned s' ∧ w'.ownsRow w.heap.size 5 1 s' l.length (cellsB l) ∧ Below w.heap.size w w' := by
  obtain ⟨ao, c, rfl, hc, ⟨rfl, rfl, rfl⟩ | ⟨g, o, rfl, hg, hcell⟩⟩ := h
  · refine clone_none.mono ?_
    rintro e w' ⟨rfl, rfl⟩
    exact ⟨_, rfl, World.ownsRow_nil _ _ _ _, Below.refl _ _⟩
  · exact clone_some g o c l hcell hg hlen

/-- A slice that is owned: its shape. -/
theorem owns_form {w : World} {base : Nat} {e : TypeId} {size : Nat} {v : Value} {n : Nat} {xs : List Value} (h : w.ownsRow base e size v n xs) : ∃ ao cap, v = .slice ao n cap := by
  rcases h.2 with ⟨rfl, e⟩ | ⟨g, cap, _, rfl, _⟩
  · exact ⟨none, 0, by rw [e]⟩
  · exact ⟨_, cap, rfl⟩

set_option maxHeartbeats 800000 in
set_option maxRecDepth 1000000 in
theorem done_whole {w : World} {b : Nat} {v : Value} {bs : List UInt8} (h : Wst w b v (some bs)) (hlen : bs.length ≤ 140737488355328) :
    Calls Tryz.prog 43 #[.pointer (some ⟨b, 0, none⟩)] w fun e w' => ∃ s', e = .returned (.tuple #[s', .int .i64 0]) ∧ w'.ownsRow w.heap.size 5 1 s' bs.length (cellsB bs) ∧ Below w.heap.size w w' := by
  have HR : Hid (Reads w v bs) := Reads.of_owns h.row
  obtain ⟨ao, cap, rfl⟩ := Wr.form h
  have c0 : w.cell? ⟨b, 0, none⟩ = some (.slice ao bs.length cap) := by rw [cell_at h.box]; rfl
  have c1 : w.cell? ⟨b, 1, none⟩ = some (.bool false) := by rw [cell_at h.box]; rfl
  clear h
  go_enter Tryz.func43, Tryz.ntmps43
  go_wp2_with fail
  refine (clone_any HR.out hlen).mono ?_
  rintro e w1 ⟨s', rfl, h1, h2⟩
  have R : Hid _ := And.intro h1 h2
  obtain ⟨ao', cap', rfl⟩ := owns_form h1
  clear h1 h2
  go_wp2
  go_ret2
  exact ⟨_, rfl, R.out.1, R.out.2⟩

set_option maxHeartbeats 800000 in
set_option maxRecDepth 1000000 in
theorem done_broken {w : World} {b : Nat} {v : Value} (h : Wst w b v none) :
    Calls Tryz.prog 43 #[.pointer (some ⟨b, 0, none⟩)] w fun e w' => e = .returned (.tuple #[.slice none 0 0, .int .i64 1]) ∧ w' = w := by
  have c1 : w.cell? ⟨b, 1, none⟩ = some (.bool true) := by rw [cell_at h.2]; rfl
  clear h
  go_enter Tryz.func43, Tryz.ntmps43
  go_wp2
  go_ret2
  exact ⟨rfl, rfl⟩
end Go.Proofs.YthoppemjfdnibaaGreatDoor
