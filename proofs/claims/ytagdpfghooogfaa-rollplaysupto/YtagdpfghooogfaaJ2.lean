import Derived.Test.YtagdpfghooogfaaJ1
import Derived.Test.YtagdpfghooogfaaRows
import Derived.WalkKit
import Derived.WalkSpells
import Derived.WalkLawsBesides
import Derived.Maps.AppendAt
import Derived.Laws.AppendOwnNone
import Derived.Laws.BitsAllLaws
import Derived.Deep.Draws
import Derived.ArgAppend
import Derived.Deep.RegionLaw
import Derived.Deep.RegionWith
import Derived.Deep.DrawnRows
import Derived.Deep.AppendLies
import Derived.WalkMore
import Derived.Deep.LoopGhost
namespace Go.Proofs.Ytagdpfghooogfaa
open Go.RowKit
set_option linter.unusedVariables false

theorem xgroup_cell (m : Nat) : [Value.int .u8 ((m : Int) % 128 + 128)] = cellsB [UInt8.ofNat (m % 128 + 128)] := by
  simp only [cellsB, List.map_cons, List.map_nil, UInt8.toNat_ofNat']
  congr 2
  omega

theorem xlow_cell (m : Nat) (h : m < 128) : [Value.int .u8 (m : Int)] = cellsB [UInt8.ofNat m] := by
  simp only [cellsB, List.map_cons, List.map_nil, UInt8.toNat_ofNat']
  congr 2
  omega

/-- A byte more on a list that was made here. -/
theorem made_grow {w0 w w1 : World} {o : Obj} {v : Value} {n : Nat} {xs : List Value} (hb : Below w0.heap.size w0 w) (h : w.ownsRow w0.heap.size 5 1 v n xs) (hg : (w.alloc o).grownBy w1 v.ownBlock) : Below w0.heap.size w0 w1 :=
  (hb.alloc hb.size _).grown hg (by have := hb.size; simp; omega) (fun k hk => (World.ownsRow.lt h k hk).1)

set_option maxHeartbeats 1600000 in
set_option maxRecDepth 1000000 in
theorem xgroups (w : World) (n : Nat) (hn : n < 18446744073709551616) :
    Calls Try.prog 59 #[.int .u64 (n : Int)] w fun e w' => ∃ s', e = .returned s' ∧ w'.ownsRow w.heap.size 5 1 s' (enc 9 n).length (cellsB (enc 9 n)) ∧ Below w.heap.size w w' := by
  obtain ⟨i0, hi, hz0, hz1, hz2⟩ := info_parts Try.info5
  go_enter Try.func59, Try.ntmps59
  go_wp2
  go_loopw [0, 3] (fun nv ov wr => ∃ (f m : Nat) (pre : List UInt8), nv = .int .u64 (m : Int) ∧ m < 128 ^ (f + 1) ∧ m < 18446744073709551616 ∧ pre.length + f = 9 ∧ Hid (pre ++ enc f m = enc 9 n) ∧ Hid (wr.ownsRow w.heap.size 5 1 ov pre.length (cellsB pre) ∧ Below w.heap.size w wr)) (fun nv _ _ => (intOf nv).toNat)
  case atStart => exact ⟨9, n, [], rfl, by omega, hn, rfl, by simp [Hid], World.ownsRow_nil _ _ _ _, Below.refl _ _⟩
  case round =>
    obtain ⟨f, m, pre, rfl, hm, hm64, hpf, he, hst⟩ := hrel
    obtain ⟨ao, c, eo⟩ := owns_form hst.out.1
    subst eo
    have hown := hst.out.1
    have hsz := hst.out.2.size
    by_cases hlt : 128 ≤ m
    · obtain ⟨f', hf, hm', hpf', he'⟩ := rel_step hm hlt hpf he.out
      have He' := hid he'
      have Hm' := hid hm'
      have Hp' := hid hpf'
      clear he' hm' hf hpf' he hm
      go_wp2_with (at_builtin; refine wpList_append_own_at _ rfl (.tmp 6) (.tmp 11) 40 rfl w.heap.size 5 i0 (.int .u8 0) 1 1 Try.underlying40 hi hz0 hz1 hz2 rfl (by decide) _ _ _ rfl (hown.alloc _) ⟨wr.heap.size, 0, none⟩ 1 1 [.int .u8 ((m : Int) % 128 + 128)] rfl rfl (cell_one_new _ _ _) (fun u hu => by simp at hu; subst hu; rfl) (by unfold maxLen; omega) (by omega) (by simp; omega) ?_)
      intro v' w1 hown1 hgr hnil hat
      have B1 := hid (made_grow hst.out.2 hown hgr)
      rw [xgroup_cell, ← cellsB_append] at hown1
      have H1 := hid hown1
      obtain ⟨ao', c', eo⟩ := owns_form hown1
      subst eo
      clear hown1 hgr hnil hat hown
      go_wp2
      go_roundw
      case rel => exact ⟨f', m / 128, _, by go_num, Hm'.out, by omega, Hp'.out, He', by rw [List.length_append]; exact H1.out, B1.out⟩
      case measure => simp [intOf]; omega
    · have h128 : m < 128 := by omega
      go_wp2_with (at_builtin; refine wpList_append_own_at _ rfl (.tmp 15) (.tmp 18) 40 rfl w.heap.size 5 i0 (.int .u8 0) 1 1 Try.underlying40 hi hz0 hz1 hz2 rfl (by decide) _ _ _ rfl (hown.alloc _) ⟨wr.heap.size, 0, none⟩ 1 1 [.int .u8 (m : Int)] rfl rfl (cell_one_new _ _ _) (fun u hu => by simp at hu; subst hu; rfl) (by unfold maxLen; omega) (by omega) (by simp; omega) ?_)
      intro v' w1 hown1 hgr hnil hat
      have B1 := hid (made_grow hst.out.2 hown hgr)
      rw [xlow_cell m h128, ← cellsB_append] at hown1
      have H1 := hid hown1
      obtain ⟨ao', c', eo⟩ := owns_form hown1
      subst eo
      clear hown1 hgr hnil hat hown
      go_wp2
      go_ret
      refine ⟨_, rfl, ?_, B1.out⟩
      rw [← he.out, enc_small f m h128, List.length_append]
      exact H1.out

theorem Xst.reads_apart {w w1 : World} {b : Nat} {v : Value} {st : Option (List UInt8)} (h : Xst w b v st) {s : Value} {n : Nat} {xs : List Value} (ho : w1.ownsRow w.heap.size 5 1 s n xs) : ∀ k, s.ownBlock = some k → k ≠ b ∧ v.ownBlock ≠ some k := by
  intro k hk
  have h1 := (World.ownsRow.lt ho k hk).1
  have h2 := h.lt
  refine ⟨by omega, fun e => ?_⟩
  have := (h.own_lt k e).2
  omega

set_option maxHeartbeats 800000 in
set_option maxRecDepth 1000000 in
theorem xnum_any {w : World} {b : Nat} {v : Value} {st : Option (List UInt8)} (h : Xst w b v st) (n : Int) (hn : n < 9223372036854775808) (hlen : lenS st + 10 ≤ 140737488355328) :
    Calls Try.prog 46 #[.pointer (some ⟨b, 0, none⟩), .int .i64 n] w fun e w' => e = .returned (.tuple #[]) ∧ ∃ v', Xst w' b v' (numS st n) ∧ WStep b w v w' v' := by
  have HH := hid h
  by_cases h0 : n < 0
  · obtain ⟨bs, bad, hx⟩ := h.parts
    have c1 : w.cell? ⟨b, 1, none⟩ = some (.bool bad) := by rw [cell_at hx.box]; rfl
    have f1 := free_at hx.box 1
    have R : Hid (Xst (w.setCell ⟨b, 1, none⟩ (.bool true)) b v none ∧ WStep b w v (w.setCell ⟨b, 1, none⟩ (.bool true)) v) := by
      refine ⟨⟨bs, ?_, ownsRow_setCell_below hx.row (by simp) _⟩, ⟨rfl, rfl, rfl, by simp [World.setCell], ?_, fun k hk => Or.inl hk⟩⟩
      · rw [heap_setCell_same hx.box]; rfl
      · intro k hk hkb hkv
        rw [Below.heap_setCell _ _ _ _ (by simpa using hkb)]
    clear h hx
    go_enter Try.func46, Try.ntmps46
    go_wp2
    refine bodyPost_ret (results_none rfl _ _ _) rfl ?_
    refine ⟨rfl, v, ?_, R.out.2⟩
    unfold numS
    rw [if_pos h0]
    exact R.out.1
  · obtain ⟨m, rfl⟩ := Int.eq_ofNat_of_zero_le (Int.not_lt.1 h0)
    clear h
    go_enter Try.func46, Try.ntmps46
    go_wp2_with fail
    refine (xgroups w m (by omega)).mono ?_
    rintro e w1 ⟨s', rfl, h1, h2⟩
    have H1 := hid h1
    have H2 := hid h2
    obtain ⟨ao, c, eo⟩ := owns_form h1
    subst eo
    clear h1 h2
    go_wp2_with fail
    refine (xput_any (HH.out.below H2.out) (Reads.of_owns H1.out) (by have := enc_len 9 m; omega)).mono ?_
    rintro e w2 ⟨rfl, v2, h3, h4⟩
    have H3 := hid h3
    have H4 := hid h4
    clear h3 h4
    go_wp2
    go_end0
    refine ⟨rfl, v2, ?_, (WStep.of_below H2.out).trans H4.out⟩
    unfold numS
    rw [if_neg (by omega)]
    exact H3.out

theorem xfold_neg (n : Int) (h0 : n < 0) : (-(n + 1)) * 2 + 1 = (foldN n : Int) := by
  unfold foldN; rw [if_pos h0]; omega

set_option maxHeartbeats 800000 in
set_option maxRecDepth 1000000 in
theorem xtext_any {w : World} {b : Nat} {v : Value} {st : Option (List UInt8)} (h : Xst w b v st) (s : ByteArray) (hlen : lenS st + s.size + 10 ≤ 140737488355328) :
    Calls Try.prog 60 #[.pointer (some ⟨b, 0, none⟩), .string s] w fun e w' => e = .returned (.tuple #[]) ∧ ∃ v', Xst w' b v' (addS st (enc 9 s.size ++ s.data.toList)) ∧ WStep b w v w' v' := by
  have HH := hid h
  clear h
  have hcv := fun w s => run_bytes_of_string (P := Try.prog) w 9 40 5 s Try.underlying9 Try.underlying40 Try.underlying5
  go_enter Try.func60, Try.ntmps60
  go_wp2_with fail
  refine (xnum_any HH.out (s.size : Int) (by omega) (by omega)).mono ?_
  rintro e w1 ⟨rfl, v1, h3, h4⟩
  have e1 : numS st (s.size : Int) = addS st (enc 9 s.size) := by unfold numS; rw [if_neg (by omega)]; simp
  rw [e1] at h3
  have H1 := hid h3
  have H2 := hid h4
  clear h3 h4 e1
  go_wp2_with fail
  have hb : Below w1.heap.size w1 (w1.alloc (.cells (bytesRow s (grownCap w1 s.size 0 5)) 5 ((bytesRow s (grownCap w1 s.size 0 5)).size, (bytesRow s (grownCap w1 s.size 0 5)).size + 1))).drew := ((Below.refl _ _).alloc (Nat.le_refl _) _).drew
  refine (xput_any (H1.out.below hb) (Reads.ofString w1 s _ _ (grownCap_ge w1 s.size 0 5)) ?_).mono ?_
  · have : s.data.toList.length = s.size := rfl
    have := lenS_addS st (enc 9 s.size)
    have := enc_len 9 s.size
    omega
  rintro e w2 ⟨rfl, v2, h3, h4⟩
  rw [addS_addS] at h3
  have H3 := hid h3
  have H4 := hid (H2.out.trans ((WStep.of_below hb).trans h4))
  clear h3 h4 hb
  go_wp2
  go_end0
  exact ⟨rfl, v2, H3.out, H4.out⟩

set_option maxHeartbeats 800000 in
set_option maxRecDepth 1000000 in
theorem xdone_some {w : World} {b : Nat} {bs : List UInt8} (g o c : Nat) (h : XWr w b (.slice (some ⟨g, o, none⟩) bs.length c) bs false) (hlen : bs.length ≤ 140737488355328) :
    Calls Try.prog 48 #[.pointer (some ⟨b, 0, none⟩)] w fun e w' => ∃ s', e = .returned (.tuple #[s', .int .i64 0]) ∧ w'.ownsRow w.heap.size 5 1 s' bs.length (cellsB bs) ∧ Below w.heap.size w w' := by
  obtain ⟨i0, hi, hz0, hz1, hz2⟩ := info_parts Try.info5
  have c0 : w.cell? ⟨b, 0, none⟩ = some (.slice (some ⟨g, o, none⟩) bs.length c) := by rw [cell_at h.box]; rfl
  have c1 : w.cell? ⟨b, 1, none⟩ = some (.bool false) := by rw [cell_at h.box]; rfl
  have hblt := h.lt
  have hr := Reads.of_owns h.row
  have hnews : ∀ j u, (cellsB bs)[j]? = some u → (w.alloc (.cells #[] 5)).cell? ((⟨g, o, none⟩ : Addr).add j) = some u := by
    intro j u hu
    obtain ⟨ao, c', e, _, ⟨_, e2, _⟩ | ⟨g', o', rfl, hg, hc⟩⟩ := hr
    · subst e2; simp [cellsB] at hu
    · simp only [Value.slice.injEq, Option.some.injEq, Addr.mk.injEq] at e
      obtain ⟨⟨rfl, rfl, _⟩, _, _⟩ := e
      rw [Addr.add_lit, World.cell?_alloc_past _ _ _ hg]
      exact hc j u hu
  clear h hr
  have h0 : (w.alloc (.cells #[] 5)).ownsRow w.heap.size 5 1 (.slice (some ⟨w.heap.size, 0, none⟩) 0 0) 0 [] := World.ownsRow_made w #[] 0 (Nat.le_refl _) (by unfold maxLen; omega) rfl
  go_enter Try.func48, Try.ntmps48
  go_wp2_with (at_builtin; refine wpList_append_own_at _ rfl (.tmp 8) (.tmp 12) 40 rfl w.heap.size 5 i0 (.int .u8 0) 1 1 Try.underlying40 hi hz0 hz1 hz2 rfl (by decide) _ _ _ rfl h0 ⟨g, o, none⟩ bs.length c (cellsB bs) rfl (by rw [cellsB_length]; omega) hnews (cellsB_one _) (by unfold maxLen; omega) (by omega) (by simp) ?_)
  intro v' w1 hown hgr hnil hat
  have R : Hid (w1.ownsRow w.heap.size 5 1 v' bs.length (cellsB bs) ∧ Below w.heap.size w w1) := by
    refine ⟨by simpa using hown, ((Below.refl _ _).alloc (Nat.le_refl _) _).grown hgr (by simp) (fun k hk => ?_)⟩
    simp [Value.ownBlock] at hk
    omega
  clear hown hgr hnil hat h0
  obtain ⟨ao', cap', eo⟩ := owns_form R.out.1
  subst eo
  go_wp2
  go_ret2
  exact ⟨_, rfl, R.out.1, R.out.2⟩

set_option maxHeartbeats 800000 in
set_option maxRecDepth 1000000 in
theorem xdone_none {w : World} {b : Nat} (h : XWr w b (.slice none 0 0) [] false) :
    Calls Try.prog 48 #[.pointer (some ⟨b, 0, none⟩)] w fun e w' => ∃ s', e = .returned (.tuple #[s', .int .i64 0]) ∧ w'.ownsRow w.heap.size 5 1 s' 0 [] ∧ Below w.heap.size w w' := by
  obtain ⟨i0, hi, hz0, hz1, hz2⟩ := info_parts Try.info5
  have c0 : w.cell? ⟨b, 0, none⟩ = some (.slice none 0 0) := by rw [cell_at h.box]; rfl
  have c1 : w.cell? ⟨b, 1, none⟩ = some (.bool false) := by rw [cell_at h.box]; rfl
  have hblt := h.lt
  clear h
  have h0 : (w.alloc (.cells #[] 5)).ownsRow w.heap.size 5 1 (.slice (some ⟨w.heap.size, 0, none⟩) 0 0) 0 [] := World.ownsRow_made w #[] 0 (Nat.le_refl _) (by unfold maxLen; omega) rfl
  have R := hid (And.intro h0 ((Below.refl w.heap.size w).alloc (Nat.le_refl _) (.cells #[] 5)))
  go_enter Try.func48, Try.ntmps48
  go_wp2_with (at_builtin; refine wpList_append_own_none rfl (.tmp 8) (.tmp 12) 40 rfl w.heap.size 5 i0 1 Try.underlying40 hi _ _ _ rfl h0 rfl ?_)
  go_ret2
  exact ⟨_, rfl, R.out.1, R.out.2⟩

theorem xdone_whole {w : World} {b : Nat} {v : Value} {bs : List UInt8} (h : Xst w b v (some bs)) (hlen : bs.length ≤ 140737488355328) :
    Calls Try.prog 48 #[.pointer (some ⟨b, 0, none⟩)] w fun e w' => ∃ s', e = .returned (.tuple #[s', .int .i64 0]) ∧ w'.ownsRow w.heap.size 5 1 s' bs.length (cellsB bs) ∧ Below w.heap.size w w' := by
  have hx : XWr w b v bs false := h
  rcases hx.row.2 with ⟨rfl, e⟩ | ⟨g, cap, cur, rfl, _⟩
  · have e1 : bs = [] := List.eq_nil_of_length_eq_zero e
    subst e1
    exact xdone_none hx
  · exact xdone_some g 0 cap hx hlen

set_option maxHeartbeats 800000 in
set_option maxRecDepth 1000000 in
theorem xdone_broken {w : World} {b : Nat} {v : Value} (h : Xst w b v none) :
    Calls Try.prog 48 #[.pointer (some ⟨b, 0, none⟩)] w fun e w' => e = .returned (.tuple #[.slice none 0 0, .int .i64 1]) ∧ w' = w := by
  obtain ⟨bs, hx⟩ := h
  have c1 : w.cell? ⟨b, 1, none⟩ = some (.bool true) := by rw [cell_at hx.box]; rfl
  clear hx
  go_enter Try.func48, Try.ntmps48
  go_wp2
  go_ret2
  exact ⟨rfl, rfl⟩

set_option maxHeartbeats 800000 in
set_option maxRecDepth 1000000 in
theorem xnew_any (w : World) : Calls Try.prog 45 #[] w fun e w' => e = .returned (.pointer (some ⟨w.heap.size, 0, none⟩)) ∧ Below w.heap.size w w' ∧ Xst w' w.heap.size (.slice none 0 0) (some []) := by
  have R : Hid (Below w.heap.size w (w.alloc (.cells #[.slice none 0 0, .bool false] 103)) ∧ Xst (w.alloc (.cells #[.slice none 0 0, .bool false] 103)) w.heap.size (.slice none 0 0) (some [])) :=
    ⟨(Below.refl _ _).alloc (Nat.le_refl _) _, ⟨heap_alloc_new _ _, World.ownsRow_nil _ _ _ _⟩⟩
  go_enter Try.func45, Try.ntmps45
  go_wp2
  go_ret
  exact ⟨rfl, R.out⟩

end Go.Proofs.Ytagdpfghooogfaa

namespace Go.Proofs.Ytagdpfghooogfaa
open Go.RowKit
set_option linter.unusedVariables false

theorem owns_zero {w : World} {base : Nat} {e : TypeId} {size : Nat} {v : Value} {n : Nat} {xs : List Value} (h : w.ownsRow base e size v n xs) : w.ownsRow 0 e size v n xs := by
  refine ⟨h.1, ?_⟩
  rcases h.2 with hn | ⟨g, cap, cur, rfl, hg, rest⟩
  · exact Or.inl hn
  · exact Or.inr ⟨g, cap, cur, rfl, by omega, rest⟩

/-- Of what was there nothing has turned but the blocks of a list. -/
structure Fr (F : List Nat) (w w' : World) : Prop where
  os : w'.os = w.os
  tape : w'.tape = w.tape
  output : w'.output = w.output
  size : w.heap.size ≤ w'.heap.size
  block : ∀ k, k < w.heap.size → k ∉ F → w'.heap[k]? = w.heap[k]?

theorem Fr.refl (F : List Nat) (w : World) : Fr F w w := ⟨rfl, rfl, rfl, Nat.le_refl _, fun _ _ _ => rfl⟩

/-- New blocks, or old ones of a list. -/
def Gr (F F' : List Nat) (n : Nat) : Prop := ∀ k ∈ F', k ∈ F ∨ n ≤ k

theorem Fr.mono {F G : List Nat} {w w' : World} (h : Fr F w w') (hs : ∀ k ∈ F, k ∈ G) : Fr G w w' := ⟨h.os, h.tape, h.output, h.size, fun k hk hG => h.block k hk (fun hF => hG (hs k hF))⟩
theorem Fr.trans {F G : List Nat} {w w1 w2 : World} (h : Fr F w w1) (k : Fr G w1 w2) (hg : Gr F G w.heap.size) : Fr F w w2 :=
  ⟨k.os.trans h.os, k.tape.trans h.tape, k.output.trans h.output, Nat.le_trans h.size k.size, fun i hi hF => by
    rw [k.block i (Nat.lt_of_lt_of_le hi h.size) (fun hG => ?_), h.block i hi hF]
    rcases hg i hG with e | e
    · exact hF e
    · omega⟩
theorem Fr.below {F : List Nat} {w w' : World} (h : Below w.heap.size w w') : Fr F w w' := ⟨h.os, h.tape, h.output, h.size, fun k hk _ => h.block k hk⟩
theorem Fr.toBelow {w w' : World} (h : Fr [] w w') : Below w.heap.size w w' := ⟨h.os, h.tape, h.output, h.size, fun k hk => h.block k hk (by simp)⟩
theorem Fr.setCell (w : World) (b j : Nat) (u : Value) : Fr [b] w (w.setCell ⟨b, j, none⟩ u) :=
  ⟨rfl, rfl, rfl, by simp [World.setCell], fun k _ hb => Below.heap_setCell _ _ _ _ (by simpa using hb)⟩
theorem Gr.refl (F : List Nat) (n : Nat) : Gr F F n := fun k hk => Or.inl hk

/-- A part of the memory that is known. -/
structure Comp where
  holds : World → Prop
  fp : List Nat

/-- A later world, as far as it is not memory. -/
structure Later (w w' : World) : Prop where
  os : w'.os = w.os
  tape : w'.tape = w.tape
  output : w'.output = w.output
  size : w.heap.size ≤ w'.heap.size

/-- It hangs on its own blocks alone. -/
def Comp.Good (c : Comp) : Prop := ∀ w w', c.holds w → Later w w' → (∀ k ∈ c.fp, w'.heap[k]? = w.heap[k]?) → c.holds w'

def Disj (F G : List Nat) : Prop := ∀ k ∈ F, k ∉ G
theorem Disj.symm {F G : List Nat} (h : Disj F G) : Disj G F := fun k hk hF => h k hF hk

/-- Parts that have nothing in common. -/
def All : List Comp → World → Prop
  | [], _ => True
  | c :: cs, w => (c.Good ∧ c.holds w ∧ ∀ k ∈ c.fp, k < w.heap.size) ∧ (∀ d ∈ cs, Disj c.fp d.fp) ∧ All cs w

theorem All.mem {cs : List Comp} {w : World} (h : All cs w) {c : Comp} (hc : c ∈ cs) : c.Good ∧ c.holds w ∧ ∀ k ∈ c.fp, k < w.heap.size := by
  induction cs with
  | nil => cases hc
  | cons d cs ih =>
    rcases List.mem_cons.1 hc with rfl | hc
    · exact h.1
    · exact ih h.2.2 hc

/-- Parts that were not touched. -/
theorem All.kept {cs : List Comp} {w w' : World} {F : List Nat} (h : All cs w) (hf : Fr F w w') (hd : ∀ d ∈ cs, Disj F d.fp) : All cs w' := by
  induction cs with
  | nil => exact trivial
  | cons c cs ih =>
    obtain ⟨⟨hg, hh, hlt⟩, hdj, hr⟩ := h
    refine ⟨⟨hg, hg w w' hh ⟨hf.os, hf.tape, hf.output, hf.size⟩ (fun k hk => hf.block k (hlt k hk) (fun hF => hd c (by simp) k hF hk)), fun k hk => Nat.lt_of_lt_of_le (hlt k hk) hf.size⟩, hdj, ih hr (fun d hd' => hd d (by simp [hd']))⟩

/-- The first part is turned. -/
theorem All.turn {c c' : Comp} {cs : List Comp} {w w' : World} (h : All (c :: cs) w) (hf : Fr c.fp w w') (hg : c'.Good) (hh : c'.holds w') (hgr : Gr c.fp c'.fp w.heap.size) (hlt : ∀ k ∈ c'.fp, k < w'.heap.size) : All (c' :: cs) w' := by
  refine ⟨⟨hg, hh, hlt⟩, fun d hd k hk hkd => ?_, h.2.2.kept hf h.2.1⟩
  rcases hgr k hk with e | e
  · exact h.2.1 d hd k e hkd
  · have := (h.2.2.mem hd).2.2 k hkd; omega

/-- A new part. -/
theorem All.add {c : Comp} {cs : List Comp} {w w' : World} (h : All cs w) (hf : Fr [] w w') (hg : c.Good) (hh : c.holds w') (hnew : ∀ k ∈ c.fp, w.heap.size ≤ k ∧ k < w'.heap.size) : All (c :: cs) w' := by
  refine ⟨⟨hg, hh, fun k hk => (hnew k hk).2⟩, fun d hd k hk hkd => ?_, h.kept hf (fun d _ k hk => by cases hk)⟩
  have := (h.mem hd).2.2 k hkd
  have := (hnew k hk).1
  omega

theorem All.later {cs : List Comp} {w w' : World} (h : All cs w) (hb : Below w.heap.size w w') : All cs w' := h.kept (Fr.below (F := []) hb) (fun d _ k hk => by cases hk)

theorem All.swap {c d : Comp} {cs : List Comp} {w : World} (h : All (c :: d :: cs) w) : All (d :: c :: cs) w := by
  obtain ⟨h1, h2, h3, h4, h5⟩ := h
  refine ⟨h3, fun x hx => ?_, h1, fun x hx => h2 x (by simp [hx]), h5⟩
  rcases List.mem_cons.1 hx with rfl | hx
  · exact (h2 d (by simp)).symm
  · exact h4 x hx

theorem All.perm {cs ds : List Comp} {w : World} (p : cs.Perm ds) (h : All cs w) : All ds w := by
  induction p with
  | nil => exact h
  | cons x _ ih =>
    rename_i l1 l2 hp
    exact ⟨h.1, fun d hd => h.2.1 d (hp.mem_iff.2 hd), ih h.2.2⟩
  | swap x y l => exact h.swap
  | trans _ _ ih1 ih2 => exact ih2 (ih1 h)

theorem All.tail {c : Comp} {cs : List Comp} {w : World} (h : All (c :: cs) w) : All cs w := h.2.2

/-- What came in. -/
def inC (w0 : World) : Comp := ⟨fun w => Below w0.heap.size w0 w, List.range w0.heap.size⟩

theorem inC_good (w0 : World) : (inC w0).Good := by
  intro w w' h hs hb
  have h' : Below w0.heap.size w0 w := h
  exact ⟨hs.os.trans h'.os, hs.tape.trans h'.tape, hs.output.trans h'.output, Nat.le_trans h'.size hs.size, fun k hk => (hb k (List.mem_range.2 hk)).trans (h'.block k hk)⟩

theorem All.came (w : World) : All [inC w] w := ⟨⟨inC_good w, Below.refl _ _, fun k hk => List.mem_range.1 hk⟩, ⟨fun d hd => (by cases hd), trivial⟩⟩

theorem Fr.set {F : List Nat} {w w' : World} (h : Fr F w w') (b j : Nat) (v : Value) (hb : b ∈ F) : Fr F w (w'.setCell ⟨b, j, none⟩ v) :=
  ⟨h.os, h.tape, h.output, by simpa [World.setCell] using h.size, fun k hk hF => (Below.heap_setCell _ _ _ _ (by intro e; exact hF (by rw [show k = b from e]; exact hb))).trans (h.block k hk hF)⟩
theorem Fr.drewN {F : List Nat} {w w' : World} (h : Fr F w w') (q : Nat) : Fr F w (w'.drewN q) := ⟨h.os, h.tape, h.output, h.size, h.block⟩
theorem Fr.drew {F : List Nat} {w w' : World} (h : Fr F w w') : Fr F w w'.drew := ⟨h.os, h.tape, h.output, h.size, h.block⟩
theorem Fr.trans' {F : List Nat} {w w1 w2 : World} (h : Fr F w w1) (k : Fr F w1 w2) : Fr F w w2 :=
  ⟨k.os.trans h.os, k.tape.trans h.tape, k.output.trans h.output, Nat.le_trans h.size k.size, fun i hi hF => (k.block i (Nat.lt_of_lt_of_le hi h.size) hF).trans (h.block i hi hF)⟩
theorem ba (w : World) (o : Obj) : Below w.heap.size w (w.alloc o) := (Below.refl _ _).alloc (Nat.le_refl _) _
theorem bdN (w : World) (q : Nat) : Below w.heap.size w (w.drewN q) := ⟨rfl, rfl, rfl, Nat.le_refl _, fun _ _ => rfl⟩
theorem bd (w : World) : Below w.heap.size w w.drew := ⟨rfl, rfl, rfl, Nat.le_refl _, fun _ _ => rfl⟩
theorem All.drew {cs : List Comp} {w : World} (h : All cs w) : All cs w.drew := h.later (bd w)
theorem All.drewN {cs : List Comp} {w : World} (h : All cs w) (q : Nat) : All cs (w.drewN q) := h.later (bdN w q)
theorem All.alloc {cs : List Comp} {w : World} (h : All cs w) (o : Obj) : All cs (w.alloc o) := h.later (ba w o)
theorem All.mid {xs bs : List Comp} {c : Comp} {w : World} (h : All (xs ++ c :: bs) w) : All (xs ++ bs) w := (h.perm List.perm_middle).tail
theorem All.into {cs : List Comp} {w w0 : World} (h : All cs w) (hin : inC w0 ∈ cs) : Below w0.heap.size w0 w := (h.mem hin).2.1
theorem grown_fr {w w1 : World} {row : Option Nat} (h : w.grownBy w1 row) : Fr row.toList w w1 :=
  ⟨h.os, h.tape, h.output, h.size, fun k hk hF => h.block k hk (fun e => hF (by simp [← e]))⟩
theorem cell_under {w w' : World} (hb : Below w.heap.size w w') {g j : Nat} (hg : g < w.heap.size) {u : Value} (h : w.cell? ⟨g, j, none⟩ = some u) : w'.cell? ⟨g, j, none⟩ = some u := by
  rw [← h]
  unfold World.cell?
  rw [hb.block g hg]

/-- A block, just so. -/
def blkC (g : Nat) (vs : List Value) (t : TypeId) : Comp := ⟨fun w => w.heap[g]? = some (.cells vs.toArray t (0, 0)), [g]⟩
theorem blkC_good (g : Nat) (vs : List Value) (t : TypeId) : (blkC g vs t).Good := fun w w' h _ hb => (hb g (by simp [blkC])).trans h
theorem All.addBlk {cs : List Comp} {w : World} (h : All cs w) (vs : List Value) (t : TypeId) : All (blkC w.heap.size vs t :: cs) (w.alloc (.cells vs.toArray t)) := by
  refine h.add (Fr.below (ba w _)) (blkC_good _ _ _) (heap_alloc_new w _) (fun k hk => ?_)
  have : k = w.heap.size := by simpa [blkC] using hk
  subst this
  exact ⟨Nat.le_refl _, by simp⟩
theorem All.setBlk {g : Nat} {vs : List Value} {t : TypeId} {cs : List Comp} {w : World} (h : All (blkC g vs t :: cs) w) (j : Nat) (u : Value) : All (blkC g (vs.set j u) t :: cs) (w.setCell ⟨g, j, none⟩ u) := by
  have hg : w.heap[g]? = some (.cells vs.toArray t (0, 0)) := h.1.2.1
  refine h.turn (Fr.setCell w g j u) (blkC_good _ _ _) ?_ (fun k hk => Or.inl hk) (fun k hk => ?_)
  · have := heap_setCell_same (j := j) hg u
    simpa [blkC] using this
  · have : k = g := by simpa [blkC] using hk
    subst this
    simpa [World.setCell] using h.1.2.2 k (by simp [blkC])
theorem All.blk {g : Nat} {vs : List Value} {t : TypeId} {cs : List Comp} {w : World} (h : All cs w) (hm : blkC g vs t ∈ cs) : w.heap[g]? = some (.cells vs.toArray t (0, 0)) := (h.mem hm).2.1

/-- A row of one's own. -/
def ownC (e : TypeId) (v : Value) (vs : List Value) : Comp := ⟨fun w => w.ownsRow 0 e 1 v vs.length vs, v.ownBlock.toList⟩
theorem ownC_good (e : TypeId) (v : Value) (vs : List Value) : (ownC e v vs).Good := by
  intro w w' h hs hb
  exact ⟨h.1, by
    rcases h.2 with hn | ⟨g, cap, cur, rfl, hg, hgg, rest⟩
    · exact Or.inl hn
    · exact Or.inr ⟨g, cap, cur, rfl, hg, by rw [hb g (by simp [ownC, Value.ownBlock])]; exact hgg, rest⟩⟩
theorem All.addOwn {e : TypeId} {cs : List Comp} {w w' : World} {v : Value} {l : List Value} (h : All cs w) (hb : Below w.heap.size w w') (ho : w'.ownsRow w.heap.size e 1 v l.length l) : All (ownC e v l :: cs) w' := by
  refine h.add (Fr.below hb) (ownC_good e v l) (owns_zero ho) (fun k hk => ?_)
  have hk' : v.ownBlock = some k := by simpa [ownC] using hk
  exact World.ownsRow.lt ho k hk'
theorem All.addNil {e : TypeId} {cs : List Comp} {w : World} (h : All cs w) : All (ownC e (.slice none 0 0) [] :: cs) w :=
  ⟨⟨ownC_good _ _ _, ⟨by simp, Or.inl ⟨rfl, rfl⟩⟩, fun k hk => by simp [ownC, Value.ownBlock] at hk⟩, fun d hd k hk => by simp [ownC, Value.ownBlock] at hk, h⟩
theorem All.ownGrow {e : TypeId} {v v' : Value} {vs vs' : List Value} {cs : List Comp} {w w1 : World} {base : Nat} (h : All (ownC e v vs :: cs) w) (hown : w1.ownsRow base e 1 v' vs'.length vs') (hg : w.grownBy w1 v.ownBlock) (hat : v'.ownBlock = v.ownBlock ∨ v'.ownBlock = some w.heap.size) : All (ownC e v' vs' :: cs) w1 := by
  have ho' := owns_zero hown
  refine h.turn ((grown_fr hg).mono (fun k hk => by simpa [ownC] using hk)) (ownC_good _ _ _) ho' (fun k hk => ?_) (fun k hk => ?_)
  · have hk' : v'.ownBlock = some k := by simpa [ownC] using hk
    rcases hat with e1 | e1
    · exact Or.inl (by simp [ownC, ← e1, hk'])
    · rw [e1] at hk'; simp at hk'; exact Or.inr (by omega)
  · have hk' : v'.ownBlock = some k := by simpa [ownC] using hk
    exact (ho'.lt k hk').2
theorem owns_at {w : World} {base : Nat} {e : TypeId} {ao : Option Addr} {n c : Nat} {us : List Value} (h : w.ownsRow base e 1 (.slice ao n c) us.length us) {k : Nat} {u : Value} (hu : us[k]? = some u) : ∃ g, ao = some ⟨g, 0, none⟩ ∧ w.cell? ⟨g, k, none⟩ = some u ∧ w.frozen? ⟨g, k, none⟩ = false := by
  have hk := (List.getElem?_eq_some_iff.1 hu).1
  rcases h.2 with ⟨e, e2⟩ | ⟨g, cap, cur, e, _, hg, hn, hm, hcs, ht⟩
  · omega
  · simp only [Value.slice.injEq] at e
    refine ⟨g, e.1, ?_, free_at hg _⟩
    rw [cell_at hg, ← Array.getElem?_toList]
    rw [← ht, List.getElem?_take, if_pos (by omega)] at hu
    exact hu
theorem owns_len {w : World} {base : Nat} {e : TypeId} {ao : Option Addr} {n c : Nat} {us : List Value} (h : w.ownsRow base e 1 (.slice ao n c) us.length us) : n = us.length ∧ us.length ≤ c := by
  rcases h.2 with ⟨e, e2⟩ | ⟨g, cap, cur, e, _, hg, hn, hm, hcs, ht⟩
  · simp only [Value.slice.injEq] at e
    exact ⟨by omega, by omega⟩
  · simp only [Value.slice.injEq] at e
    exact ⟨e.2.1, by omega⟩

end Go.Proofs.Ytagdpfghooogfaa

namespace Go.Proofs.Ytagdpfghooogfaa
open Go.RowKit
set_option linter.unusedVariables false

/-- A list of texts that is read. -/
def Txts (w : World) (s : Value) (l : List ByteArray) : Prop :=
  ∃ ao c, s = .slice ao l.length c ∧ l.length ≤ c ∧ (l = [] ∨ ∃ g o, ao = some ⟨g, o, none⟩ ∧ g < w.heap.size ∧ ∀ j (h : j < l.length), w.cell? ⟨g, o + j, none⟩ = some (.string l[j]))

theorem Txts.later {w w' : World} {s : Value} {l : List ByteArray} (h : Txts w s l) (hb : Below w.heap.size w w') : Txts w' s l := by
  obtain ⟨ao, c, e, hc, hx⟩ := h
  refine ⟨ao, c, e, hc, hx.imp id ?_⟩
  rintro ⟨g, o, ea, hg, hcell⟩
  exact ⟨g, o, ea, Nat.lt_of_lt_of_le hg hb.size, fun j hj => cell_under hb hg (hcell j hj)⟩
theorem Txts.alloc {w : World} {s : Value} {l : List ByteArray} (h : Txts w s l) (o : Obj) : Txts (w.alloc o) s l := h.later (ba w o)

theorem Txts.form {w : World} {s : Value} {l : List ByteArray} (h : Txts w s l) : ∃ ao c, s = .slice ao l.length c := by obtain ⟨ao, c, e, _⟩ := h; exact ⟨ao, c, e⟩
theorem Txts.at {w : World} {ao : Option Addr} {n c : Nat} {l : List ByteArray} (h : Txts w (.slice ao n c) l) {j : Nat} (hj : j < l.length) : ∃ g o, ao = some ⟨g, o, none⟩ ∧ g < w.heap.size ∧ w.cell? ⟨g, o + j, none⟩ = some (.string l[j]) := by
  obtain ⟨ao', c', e, hc, hx⟩ := h
  simp only [Value.slice.injEq] at e
  obtain ⟨rfl, _, _⟩ := e
  rcases hx with rfl | ⟨g, o, ea, hg, hcell⟩
  · simp at hj
  · exact ⟨g, o, ea, hg, hcell j hj⟩

abbrev resV (c n : Int) (s : Value) : Value := .agg #[.int .i64 c, .int .i64 n, s]

/-- What CheckResult tells. -/
def chkX (c n : Int) (l : List ByteArray) : Int :=
  if c < 0 ∨ 4 < c then 50 else if c ≠ 0 ∧ (n ≠ 0 ∨ l ≠ []) then 55 else if n < 0 ∨ 1099511627776 < n then 53
  else if 8 < l.length then 54 else if ∃ t ∈ l, 64 < t.size then 52 else 0

set_option maxHeartbeats 1600000 in
set_option maxRecDepth 1000000 in
theorem checkX_any {w : World} (c n : Int) {s : Value} {l : List ByteArray} (h : Txts w s l) (hl : l.length ≤ 9223372036854775807) : Calls Try.prog 42 #[resV c n s] w fun e w' => e = .returned (.int .i64 (chkX c n l)) ∧ Below w.heap.size w w' := by
  obtain ⟨ao, cp, rfl⟩ := h.form
  have HT := hid h
  have HH : Hid (∀ o, ∃ w1, w1 = w.alloc o) := fun o => ⟨_, rfl⟩
  clear h
  by_cases c0 : c < 0
  · have F : Hid (chkX c n l = 50) := by simp [chkX, c0, Hid]
    have e0 : decide (c < 0) = true := by simpa using c0
    go_enter Try.func42, Try.ntmps42
    go_wp2
    go_ret
    exact ⟨by rw [F.out]; rfl, ba _ _⟩
  have e0 : decide (c < 0) = false := by simpa using c0
  by_cases c4 : 4 < c
  · have F : Hid (chkX c n l = 50) := by simp [chkX, c4, Hid]
    have e4 : decide (4 < c) = true := by simpa using c4
    go_enter Try.func42, Try.ntmps42
    go_wp2
    go_ret
    exact ⟨by rw [F.out]; rfl, ba _ _⟩
  have e4 : decide (4 < c) = false := by simpa using c4
  by_cases hcn : c ≠ 0 ∧ (n ≠ 0 ∨ l ≠ [])
  · have F : Hid (chkX c n l = 55) := by unfold chkX; rw [if_neg (by omega), if_pos hcn]; exact rfl
    have ec : (c != 0) = true := by simpa using hcn.1
    by_cases hn : n = 0
    · have hl0 : 0 < l.length := by
        rcases hcn.2 with h | h
        · exact absurd hn h
        · exact List.length_pos_iff.2 h
      subst hn
      have eL : decide (0 < (l.length : Int)) = true := by simpa using hl0
      clear hcn
      go_enter Try.func42, Try.ntmps42
      go_wp2
      go_ret
      exact ⟨by rw [F.out]; rfl, ba _ _⟩
    · have en : (n != 0) = true := by simpa using hn
      clear hcn
      go_enter Try.func42, Try.ntmps42
      go_wp2
      go_ret
      exact ⟨by rw [F.out]; rfl, ba _ _⟩
  have G : Hid (c = 0 ∨ (c ≠ 0 ∧ n = 0 ∧ l = [])) := by
    rcases Classical.em (c = 0) with h | h
    · exact Or.inl h
    · refine Or.inr ⟨h, ?_, ?_⟩
      · exact Classical.byContradiction fun hh => hcn ⟨h, Or.inl hh⟩
      · exact Classical.byContradiction fun hh => hcn ⟨h, Or.inr hh⟩
  have F1 : Hid (chkX c n l = if n < 0 ∨ 1099511627776 < n then 53 else if 8 < l.length then 54 else if ∃ t ∈ l, 64 < t.size then 52 else 0) := by unfold chkX; rw [if_neg (by omega), if_neg hcn]; exact rfl
  clear hcn
  rcases G.out with hc | ⟨hc, hn0, hl0⟩
  · subst hc
    clear G e0 e4 c0 c4
    by_cases n0 : n < 0
    · have F : Hid (chkX 0 n l = 53) := by rw [F1.out]; simp [n0, Hid]
      have en : decide (n < 0) = true := by simpa using n0
      clear F1
      go_enter Try.func42, Try.ntmps42
      go_wp2
      go_ret
      exact ⟨by rw [F.out]; rfl, ba _ _⟩
    have en : decide (n < 0) = false := by simpa using n0
    by_cases n1 : 1099511627776 < n
    · have F : Hid (chkX 0 n l = 53) := by rw [F1.out]; simp [n1, Hid]
      have en1 : decide (1099511627776 < n) = true := by simpa using n1
      clear F1
      go_enter Try.func42, Try.ntmps42
      go_wp2
      go_ret
      exact ⟨by rw [F.out]; rfl, ba _ _⟩
    have en1 : decide (1099511627776 < n) = false := by simpa using n1
    by_cases l8 : 8 < l.length
    · have F : Hid (chkX 0 n l = 54) := by rw [F1.out]; simp [l8, Hid]; omega
      have e8 : decide ((8 : Int) < (l.length : Int)) = true := by simp; omega
      clear F1
      go_enter Try.func42, Try.ntmps42
      go_wp2
      go_ret
      exact ⟨by rw [F.out]; rfl, ba _ _⟩
    have e8 : decide ((8 : Int) < (l.length : Int)) = false := by simp; omega
    have F2 : Hid (chkX 0 n l = if ∃ t ∈ l, 64 < t.size then 52 else 0) := by rw [F1.out, if_neg (by omega), if_neg l8]; exact rfl
    clear F1
    go_enter Try.func42, Try.ntmps42
    go_wp2
    go_loopw [46] (fun iv wr => ∃ k : Nat, iv = .int .i64 (k : Int) ∧ k ≤ l.length ∧ Hid (∀ j (hj : j < k) (hl : j < l.length), l[j].size ≤ 64) ∧ wr = w.alloc (.cells #[.int .i64 0, .int .i64 n, .slice ao l.length cp] 37)) (fun iv _ => l.length - (intOf iv).toNat)
    case atStart => exact ⟨0, rfl, Nat.zero_le _, fun j hj => absurd hj (by omega), rfl⟩
    case round =>
      obtain ⟨k, rfl, hk, hbef, rfl⟩ := hrel
      by_cases hlt : k < l.length
      · obtain ⟨g, o, ea, hg, hcell⟩ := (HT.out.alloc (.cells #[.int .i64 0, .int .i64 n, .slice ao l.length cp] 37)).at hlt
        subst ea
        have el : decide ((k : Int) < (l.length : Int)) = true := by simpa using hlt
        by_cases h64 : 64 < (l[k]'hlt).size
        · have e64 : decide ((64 : Int) < ((l[k]'hlt).size : Int)) = true := by simp; omega
          go_wp2
          go_ret
          exact ⟨by rw [F2.out, if_pos ⟨_, List.getElem_mem hlt, h64⟩]; rfl, ba _ _⟩
        · have e64 : decide ((64 : Int) < ((l[k]'hlt).size : Int)) = false := by simp; omega
          go_wp2
          go_roundw
          case rel => exact ⟨k + 1, by go_num, by omega, fun j hj hl => by rcases Nat.lt_succ_iff_lt_or_eq.1 hj with h | h; exact hbef.out j h hl; subst h; omega, trivial⟩
          case measure => simp [intOf]; omega
      · have el : decide ((k : Int) < (l.length : Int)) = false := by simp; omega
        go_wp2
        go_ret
        exact ⟨by rw [F2.out, if_neg]; rfl; rintro ⟨t, ht, h64⟩; obtain ⟨j, hj, rfl⟩ := List.getElem_of_mem ht; have := hbef.out j (by omega) hj; omega, ba _ _⟩
  · subst hn0
    subst hl0
    have F2 : Hid (chkX c 0 [] = 0) := by rw [F1.out]; simp [Hid]
    have ec : (c != 0) = true := by simpa using hc
    clear F1 G
    simp only [List.length_nil] at HT ⊢
    go_enter Try.func42, Try.ntmps42
    go_wp2
    go_loopw [46] (fun iv wr => iv = .int .i64 0 ∧ wr = w.alloc (.cells #[.int .i64 c, .int .i64 0, .slice ao 0 cp] 37)) (fun iv _ => 0)
    case atStart => exact ⟨rfl, rfl⟩
    case round =>
      obtain ⟨rfl, rfl⟩ := hrel
      go_wp2
      go_ret
      exact ⟨by rw [F2.out]; rfl, ba _ _⟩

set_option maxHeartbeats 1600000 in
set_option maxRecDepth 1000000 in
theorem checkX_ref {w : World} (c n : Int) {s : Value} {l : List ByteArray} (h : Txts w s l) (hl : l.length ≤ 9223372036854775807) : Calls Try.prog 44 #[resV c n s] w fun e w' => e = .returned (.int .i64 (chkX c n l)) ∧ Below w.heap.size w w' := by
  obtain ⟨ao, cp, rfl⟩ := h.form
  have HT := hid h
  have HH : Hid (∀ o, ∃ w1, w1 = w.alloc o) := fun o => ⟨_, rfl⟩
  clear h
  by_cases c0 : c < 0
  · have F : Hid (chkX c n l = 50) := by simp [chkX, c0, Hid]
    have e0 : decide (c < 0) = true := by simpa using c0
    go_enter Try.func44, Try.ntmps44
    go_wp2
    go_ret
    exact ⟨by rw [F.out]; rfl, ba _ _⟩
  have e0 : decide (c < 0) = false := by simpa using c0
  by_cases c4 : 4 < c
  · have F : Hid (chkX c n l = 50) := by simp [chkX, c4, Hid]
    have e4 : decide (4 < c) = true := by simpa using c4
    go_enter Try.func44, Try.ntmps44
    go_wp2
    go_ret
    exact ⟨by rw [F.out]; rfl, ba _ _⟩
  have e4 : decide (4 < c) = false := by simpa using c4
  by_cases hcn : c ≠ 0 ∧ (n ≠ 0 ∨ l ≠ [])
  · have F : Hid (chkX c n l = 55) := by unfold chkX; rw [if_neg (by omega), if_pos hcn]; exact rfl
    have ec : (c != 0) = true := by simpa using hcn.1
    by_cases hn : n = 0
    · have hl0 : 0 < l.length := by
        rcases hcn.2 with h | h
        · exact absurd hn h
        · exact List.length_pos_iff.2 h
      subst hn
      have eL : decide (0 < (l.length : Int)) = true := by simpa using hl0
      clear hcn
      go_enter Try.func44, Try.ntmps44
      go_wp2
      go_ret
      exact ⟨by rw [F.out]; rfl, ba _ _⟩
    · have en : (n != 0) = true := by simpa using hn
      clear hcn
      go_enter Try.func44, Try.ntmps44
      go_wp2
      go_ret
      exact ⟨by rw [F.out]; rfl, ba _ _⟩
  have G : Hid (c = 0 ∨ (c ≠ 0 ∧ n = 0 ∧ l = [])) := by
    rcases Classical.em (c = 0) with h | h
    · exact Or.inl h
    · refine Or.inr ⟨h, ?_, ?_⟩
      · exact Classical.byContradiction fun hh => hcn ⟨h, Or.inl hh⟩
      · exact Classical.byContradiction fun hh => hcn ⟨h, Or.inr hh⟩
  have F1 : Hid (chkX c n l = if n < 0 ∨ 1099511627776 < n then 53 else if 8 < l.length then 54 else if ∃ t ∈ l, 64 < t.size then 52 else 0) := by unfold chkX; rw [if_neg (by omega), if_neg hcn]; exact rfl
  clear hcn
  rcases G.out with hc | ⟨hc, hn0, hl0⟩
  · subst hc
    clear G e0 e4 c0 c4
    by_cases n0 : n < 0
    · have F : Hid (chkX 0 n l = 53) := by rw [F1.out]; simp [n0, Hid]
      have en : decide (n < 0) = true := by simpa using n0
      clear F1
      go_enter Try.func44, Try.ntmps44
      go_wp2
      go_ret
      exact ⟨by rw [F.out]; rfl, ba _ _⟩
    have en : decide (n < 0) = false := by simpa using n0
    by_cases n1 : 1099511627776 < n
    · have F : Hid (chkX 0 n l = 53) := by rw [F1.out]; simp [n1, Hid]
      have en1 : decide (1099511627776 < n) = true := by simpa using n1
      clear F1
      go_enter Try.func44, Try.ntmps44
      go_wp2
      go_ret
      exact ⟨by rw [F.out]; rfl, ba _ _⟩
    have en1 : decide (1099511627776 < n) = false := by simpa using n1
    by_cases l8 : 8 < l.length
    · have F : Hid (chkX 0 n l = 54) := by rw [F1.out]; simp [l8, Hid]; omega
      have e8 : decide ((8 : Int) < (l.length : Int)) = true := by simp; omega
      clear F1
      go_enter Try.func44, Try.ntmps44
      go_wp2
      go_ret
      exact ⟨by rw [F.out]; rfl, ba _ _⟩
    have e8 : decide ((8 : Int) < (l.length : Int)) = false := by simp; omega
    have F2 : Hid (chkX 0 n l = if ∃ t ∈ l, 64 < t.size then 52 else 0) := by rw [F1.out, if_neg (by omega), if_neg l8]; exact rfl
    clear F1
    go_enter Try.func44, Try.ntmps44
    go_wp2
    go_loopw [3] (fun iv wr => ∃ k : Nat, iv = .int .i64 (k : Int) ∧ k ≤ l.length ∧ Hid (∀ j (hj : j < k) (hl : j < l.length), l[j].size ≤ 64) ∧ wr = w.alloc (.cells #[.int .i64 0, .int .i64 n, .slice ao l.length cp] 37)) (fun iv _ => l.length - (intOf iv).toNat)
    case atStart => exact ⟨0, rfl, Nat.zero_le _, fun j hj => absurd hj (by omega), rfl⟩
    case round =>
      obtain ⟨k, rfl, hk, hbef, rfl⟩ := hrel
      by_cases hlt : k < l.length
      · obtain ⟨g, o, ea, hg, hcell⟩ := (HT.out.alloc (.cells #[.int .i64 0, .int .i64 n, .slice ao l.length cp] 37)).at hlt
        subst ea
        have el : decide ((k : Int) < (l.length : Int)) = true := by simpa using hlt
        by_cases h64 : 64 < (l[k]'hlt).size
        · have e64 : decide ((64 : Int) < ((l[k]'hlt).size : Int)) = true := by simp; omega
          go_wp2
          go_ret
          exact ⟨by rw [F2.out, if_pos ⟨_, List.getElem_mem hlt, h64⟩]; rfl, ba _ _⟩
        · have e64 : decide ((64 : Int) < ((l[k]'hlt).size : Int)) = false := by simp; omega
          go_wp2
          go_roundw
          case rel => exact ⟨k + 1, by go_num, by omega, fun j hj hl => by rcases Nat.lt_succ_iff_lt_or_eq.1 hj with h | h; exact hbef.out j h hl; subst h; omega, trivial⟩
          case measure => simp [intOf]; omega
      · have el : decide ((k : Int) < (l.length : Int)) = false := by simp; omega
        go_wp2
        go_ret
        exact ⟨by rw [F2.out, if_neg]; rfl; rintro ⟨t, ht, h64⟩; obtain ⟨j, hj, rfl⟩ := List.getElem_of_mem ht; have := hbef.out j (by omega) hj; omega, ba _ _⟩
  · subst hn0
    subst hl0
    have F2 : Hid (chkX c 0 [] = 0) := by rw [F1.out]; simp [Hid]
    have ec : (c != 0) = true := by simpa using hc
    clear F1 G
    simp only [List.length_nil] at HT ⊢
    go_enter Try.func44, Try.ntmps44
    go_wp2
    go_loopw [3] (fun iv wr => iv = .int .i64 0 ∧ wr = w.alloc (.cells #[.int .i64 c, .int .i64 0, .slice ao 0 cp] 37)) (fun iv _ => 0)
    case atStart => exact ⟨rfl, rfl⟩
    case round =>
      obtain ⟨rfl, rfl⟩ := hrel
      go_wp2
      go_ret
      exact ⟨by rw [F2.out]; rfl, ba _ _⟩
end Go.Proofs.Ytagdpfghooogfaa

namespace Go.Proofs.Ytagdpfghooogfaa
open Go.RowKit
set_option linter.unusedVariables false

/-- A writer, as a part. -/
def wrC (b : Nat) (v : Value) (st : Option (List UInt8)) : Comp := ⟨fun w => Wst w b v st, b :: v.ownBlock.toList⟩
theorem wrC_good (b : Nat) (v : Value) (st : Option (List UInt8)) : (wrC b v st).Good := fun w w' h _ hk =>
  Wst.kept h (hk b (by simp [wrC])) (fun k hk' => hk k (by simp [wrC, hk']))
theorem All.wstep {b : Nat} {v v' : Value} {st st' : Option (List UInt8)} {cs : List Comp} {w w' : World} (h : All (wrC b v st :: cs) w) (h1 : Wst w' b v' st') (h2 : WStep b w v w' v') : All (wrC b v' st' :: cs) w' := by
  refine h.turn ⟨h2.os, h2.tape, h2.output, h2.size, fun k hk hn => ?_⟩ (wrC_good _ _ _) h1 (fun k hk => ?_) (fun k hk => ?_)
  · simp [wrC] at hn
    exact h2.block k hk hn.1 (fun e => hn.2 e.symm)
  · simp [wrC] at hk
    rcases hk with rfl | hk
    · exact Or.inl (by simp [wrC])
    · rcases h2.own k hk with e | e
      · exact Or.inl (by simp [wrC, e])
      · exact Or.inr e
  · simp [wrC] at hk
    rcases hk with rfl | hk
    · exact h1.lt
    · exact (h1.own_lt k hk).2

theorem newW {cs : List Comp} {w : World} (h : All cs w) : Calls Try.prog 37 #[] w fun e w' => ∃ b, e = .returned (.pointer (some ⟨b, 0, none⟩)) ∧ All (wrC b (.slice none 0 0) (some []) :: cs) w' :=
  (NewWriter_any w).mono fun e w' ⟨h1, h2, h3⟩ => ⟨_, h1, h.add (Fr.below h3) (wrC_good _ _ _) h2 (fun k hk => by
    have hk' : k = w.heap.size := by simpa [wrC, Value.ownBlock] using hk
    subst hk'
    exact ⟨Nat.le_refl _, h2.lt⟩)⟩
theorem textW {b : Nat} {v : Value} {st : Option (List UInt8)} {cs : List Comp} {w : World} (h : All (wrC b v st :: cs) w) (s : ByteArray) (hlen : lenS st + s.size + 10 ≤ 140737488355328) : Calls Try.prog 66 #[.pointer (some ⟨b, 0, none⟩), .string s] w fun e w' => e = .returned (.tuple #[]) ∧ ∃ v', All (wrC b v' (addS st (enc 9 s.size ++ s.data.toList)) :: cs) w' :=
  (text_any h.1.2.1 s hlen).mono fun e w' ⟨h1, v', h2, h3⟩ => ⟨h1, v', h.wstep h2 h3⟩
theorem numW {b : Nat} {v : Value} {st : Option (List UInt8)} {cs : List Comp} {w : World} (h : All (wrC b v st :: cs) w) (n : Int) (hn : n < 9223372036854775808) (hlen : lenS st + 10 ≤ 140737488355328) : Calls Try.prog 38 #[.pointer (some ⟨b, 0, none⟩), .int .i64 n] w fun e w' => e = .returned (.tuple #[]) ∧ ∃ v', All (wrC b v' (numS st n) :: cs) w' :=
  (num_any h.1.2.1 n hn hlen).mono fun e w' ⟨h1, v', h2, h3⟩ => ⟨h1, v', h.wstep h2 h3⟩
theorem numS_nat (st : Option (List UInt8)) (n : Nat) : numS st (n : Int) = addS st (enc 9 n) := by unfold numS; rw [if_neg (by omega)]; simp
theorem natW {b : Nat} {v : Value} {st : Option (List UInt8)} {cs : List Comp} {w : World} (h : All (wrC b v st :: cs) w) (n : Nat) (hn : n < 9223372036854775808) (hlen : lenS st + 10 ≤ 140737488355328) : Calls Try.prog 38 #[.pointer (some ⟨b, 0, none⟩), .int .i64 (n : Int)] w fun e w' => e = .returned (.tuple #[]) ∧ ∃ v', All (wrC b v' (addS st (enc 9 n)) :: cs) w' := by
  have := numW h (n : Int) (by omega) hlen
  rw [numS_nat] at this
  exact this
theorem doneW {b : Nat} {v : Value} {bs : List UInt8} {cs : List Comp} {w : World} (h : All (wrC b v (some bs) :: cs) w) (hlen : bs.length ≤ 140737488355328) : Calls Try.prog 40 #[.pointer (some ⟨b, 0, none⟩)] w fun e w' => ∃ so sc, e = .returned (.tuple #[.slice so bs.length sc, .int .i64 0]) ∧ All (ownC 5 (.slice so bs.length sc) (cellsB bs) :: wrC b v (some bs) :: cs) w' :=
  (done_whole h.1.2.1 hlen).mono fun e w' ⟨s', h1, h2, h3⟩ => by
    obtain ⟨so, sc, rfl⟩ := owns_form h2
    exact ⟨so, sc, h1, h.addOwn h3 (by rw [cellsB_length]; exact h2)⟩

/-- What texts are as bytes. -/
def textsB (l : List ByteArray) : List UInt8 := l.flatMap fun t => enc 9 t.size ++ t.data.toList
def itemsB (l : List ByteArray) : List UInt8 := enc 9 l.length ++ textsB l
theorem textsB_take {l : List ByteArray} {k : Nat} (hk : k < l.length) : textsB (l.take (k + 1)) = textsB (l.take k) ++ (enc 9 l[k].size ++ l[k].data.toList) := by
  rw [List.take_succ_eq_append_getElem hk, textsB, List.flatMap_append]; simp [textsB]

/-- All that is bounded: a list's texts, each with what stands ahead of it. -/
def bulkT (l : List ByteArray) : Nat := (l.map fun t => t.size + 10).sum
theorem bulkT_take {l : List ByteArray} {k : Nat} (hk : k < l.length) : (textsB (l.take k)).length + (l[k].size + 10) ≤ bulkT l := by
  induction l generalizing k with
  | nil => simp at hk
  | cons t l ih =>
    cases k with
    | zero => simp [textsB, bulkT]
    | succ k =>
      have := ih (k := k) (by simpa using hk)
      have he := enc_len 9 t.size
      simp only [List.take_succ_cons, textsB, List.flatMap_cons, List.length_append, bulkT, List.map_cons, List.sum_cons, List.getElem_cons_succ, ByteArray.size, Array.length_toList] at *
      omega

set_option maxHeartbeats 1600000 in
set_option maxRecDepth 1000000 in
theorem putItems_any {b : Nat} {v : Value} {st : Option (List UInt8)} {s : Value} {l : List ByteArray} {cs : List Comp} {w : World} (h : All (wrC b v st :: cs) w) (hT : ∀ w', All cs w' → Txts w' s l) (hlen : lenS st + bulkT l + 30 ≤ 140737488355328) (hl : l.length ≤ 1099511627776) :
    Calls Try.prog 52 #[.pointer (some ⟨b, 0, none⟩), s] w fun e w' => e = .returned (.tuple #[]) ∧ ∃ v', All (wrC b v' (addS st (itemsB l)) :: cs) w' := by
  obtain ⟨ao, c, rfl⟩ := (hT w h.tail).form
  have HH := hid h
  have HT := hid hT
  clear h hT
  go_enter Try.func52, Try.ntmps52
  go_wp2_with fail
  refine (natW HH.out l.length (by omega) (by omega)).mono ?_
  rintro e w1 ⟨rfl, v1, A1⟩
  have A1 := hid A1
  clear HH
  go_wp2
  go_loopw [12] (fun iv wr => ∃ (k : Nat) (v' : Value), iv = .int .i64 (k : Int) ∧ k ≤ l.length ∧ Hid (All (wrC b v' (addS st (enc 9 l.length ++ textsB (l.take k))) :: cs) wr)) (fun iv _ => l.length - (intOf iv).toNat)
  case atStart => exact ⟨0, v1, rfl, Nat.zero_le _, by simpa [textsB] using A1⟩
  case round =>
    obtain ⟨k, v', rfl, hk, AR⟩ := hrel
    clear A1
    by_cases hlt : k < l.length
    · obtain ⟨g, o, ea, hg, hcell⟩ := (HT.out wr AR.out.tail).at hlt
      subst ea
      have el : decide ((k : Int) < (l.length : Int)) = true := by simpa using hlt
      have HB : Hid (lenS (addS st (enc 9 l.length ++ textsB (l.take k))) + l[k].size + 10 ≤ 140737488355328) := by
        have h1 := lenS_addS st (enc 9 l.length ++ textsB (l.take k))
        have h2 := bulkT_take hlt
        have h3 := enc_len 9 l.length
        rw [List.length_append] at h1
        show _ ≤ _
        omega
      go_wp2_with fail
      refine (textW AR.out _ HB.out).mono ?_
      rintro e w2 ⟨rfl, v2, A2⟩
      rw [addS_addS, List.append_assoc, ← textsB_take hlt] at A2
      have A2 := hid A2
      clear AR HB
      go_wp2
      go_roundw
      case rel => exact ⟨k + 1, v2, by go_num, by omega, A2⟩
      case measure => simp [intOf]; omega
    · have el : decide ((k : Int) < (l.length : Int)) = false := by simp; omega
      go_wp2
      go_end0
      refine ⟨rfl, v', ?_⟩
      have := AR.out
      rw [List.take_of_length_le (by omega)] at this
      exact this
end Go.Proofs.Ytagdpfghooogfaa

namespace Go.Proofs.Ytagdpfghooogfaa
open Go.RowKit
set_option linter.unusedVariables false

theorem mem2 {c d : Comp} {cs : List Comp} : d ∈ c :: d :: cs := List.mem_cons_of_mem _ List.mem_cons_self

theorem str_len (nm : ByteArray) : nm.data.toList.length = nm.size := Array.length_toList
theorem textsB_len (l : List ByteArray) : (textsB l).length ≤ bulkT l := by
  induction l with
  | nil => simp [textsB, bulkT]
  | cons t l ih =>
    have he := enc_len 9 t.size
    have hs := str_len t
    have e1 : (textsB (t :: l)).length = (enc 9 t.size).length + t.data.toList.length + (textsB l).length := by simp [textsB]; omega
    have e2 : bulkT (t :: l) = t.size + 10 + bulkT l := by simp [bulkT]
    rw [e1, e2]
    omega
/-- A text as bytes. -/
def txtB (s : ByteArray) : List UInt8 := enc 9 s.size ++ s.data.toList
theorem lenS_nat (st : Option (List UInt8)) (k : Nat) : lenS (addS st (enc 9 k)) ≤ lenS st + 10 := by
  have h1 := lenS_addS st (enc 9 k)
  have h2 := enc_len 9 k
  omega
theorem txtB_len (s : ByteArray) : (txtB s).length ≤ s.size + 10 := by
  have h2 := enc_len 9 s.size
  rw [txtB, List.length_append, str_len]
  omega
theorem lenS_txt (st : Option (List UInt8)) (s : ByteArray) : lenS (addS st (enc 9 s.size ++ s.data.toList)) ≤ lenS st + (s.size + 10) := by
  have h1 := lenS_addS st (enc 9 s.size ++ s.data.toList)
  have h2 := txtB_len s
  have h3 : (txtB s).length = (enc 9 s.size ++ s.data.toList).length := rfl
  omega
theorem lenS_num (st : Option (List UInt8)) (n : Int) : lenS (numS st n) ≤ lenS st + 10 := by
  unfold numS
  split
  · simp [lenS]
  · exact lenS_nat _ _
/-- The document's writer, as a part. -/
def xwC (b : Nat) (v : Value) (st : Option (List UInt8)) : Comp := ⟨fun w => Xst w b v st, b :: v.ownBlock.toList⟩
theorem xst_kept {w w' : World} {b : Nat} {v : Value} {st : Option (List UInt8)} (h : Xst w b v st) (hb : w'.heap[b]? = w.heap[b]?) (hr : ∀ k, v.ownBlock = some k → w'.heap[k]? = w.heap[k]?) : Xst w' b v st := by
  have key : ∀ {bs : List UInt8} {bad : Bool}, XWr w b v bs bad → XWr w' b v bs bad := by
    intro bs bad h
    refine ⟨by rw [hb]; exact h.box, h.row.1, ?_⟩
    rcases h.row.2 with hn | ⟨g, cap, cur, rfl, hg, hgg, rest⟩
    · exact Or.inl hn
    · exact Or.inr ⟨g, cap, cur, rfl, hg, by rw [hr g rfl]; exact hgg, rest⟩
  cases st with
  | some bs => exact key h
  | none => obtain ⟨bs, h⟩ := h; exact ⟨bs, key h⟩
theorem xst_lt {w : World} {b : Nat} {v : Value} {st : Option (List UInt8)} (h : Xst w b v st) : b < w.heap.size := by
  cases st with
  | some bs => exact (Array.getElem?_eq_some_iff.1 (XWr.box h)).1
  | none => obtain ⟨bs, h⟩ := h; exact (Array.getElem?_eq_some_iff.1 h.box).1
theorem xst_own {w : World} {b : Nat} {v : Value} {st : Option (List UInt8)} (h : Xst w b v st) : ∀ k, v.ownBlock = some k → k < w.heap.size := by
  intro k hk
  cases st with
  | some bs => exact ((XWr.row h).lt k hk).2
  | none => obtain ⟨bs, h⟩ := h; exact (h.row.lt k hk).2
theorem xwC_good (b : Nat) (v : Value) (st : Option (List UInt8)) : (xwC b v st).Good := fun w w' h _ hk =>
  xst_kept h (hk b (by simp [xwC])) (fun k hk' => hk k (by simp [xwC, hk']))
theorem All.xstep {b : Nat} {v v' : Value} {st st' : Option (List UInt8)} {cs : List Comp} {w w' : World} (h : All (xwC b v st :: cs) w) (h1 : Xst w' b v' st') (h2 : WStep b w v w' v') : All (xwC b v' st' :: cs) w' := by
  refine h.turn ⟨h2.os, h2.tape, h2.output, h2.size, fun k hk hn => ?_⟩ (xwC_good _ _ _) h1 (fun k hk => ?_) (fun k hk => ?_)
  · simp [xwC] at hn
    exact h2.block k hk hn.1 (fun e => hn.2 e.symm)
  · simp [xwC] at hk
    rcases hk with rfl | hk
    · exact Or.inl (by simp [xwC])
    · rcases h2.own k hk with e | e
      · exact Or.inl (by simp [xwC, e])
      · exact Or.inr e
  · simp [xwC] at hk
    rcases hk with rfl | hk
    · exact xst_lt h1
    · exact xst_own h1 k hk
theorem xnewW {cs : List Comp} {w : World} (h : All cs w) : Calls Try.prog 45 #[] w fun e w' => ∃ b, e = .returned (.pointer (some ⟨b, 0, none⟩)) ∧ All (xwC b (.slice none 0 0) (some []) :: cs) w' :=
  (xnew_any w).mono fun e w' ⟨h1, h3, h2⟩ => ⟨_, h1, h.add (Fr.below h3) (xwC_good _ _ _) h2 (fun k hk => by
    have hk' : k = w.heap.size := by simpa [xwC, Value.ownBlock] using hk
    subst hk'
    exact ⟨Nat.le_refl _, xst_lt h2⟩)⟩
theorem xtextW {b : Nat} {v : Value} {st : Option (List UInt8)} {cs : List Comp} {w : World} (h : All (xwC b v st :: cs) w) (s : ByteArray) (hlen : lenS st + s.size + 10 ≤ 140737488355328) : Calls Try.prog 60 #[.pointer (some ⟨b, 0, none⟩), .string s] w fun e w' => e = .returned (.tuple #[]) ∧ ∃ v', All (xwC b v' (addS st (enc 9 s.size ++ s.data.toList)) :: cs) w' :=
  (xtext_any h.1.2.1 s hlen).mono fun e w' ⟨h1, v', h2, h3⟩ => ⟨h1, v', h.xstep h2 h3⟩
theorem xnumW {b : Nat} {v : Value} {st : Option (List UInt8)} {cs : List Comp} {w : World} (h : All (xwC b v st :: cs) w) (n : Int) (hn : n < 9223372036854775808) (hlen : lenS st + 10 ≤ 140737488355328) : Calls Try.prog 46 #[.pointer (some ⟨b, 0, none⟩), .int .i64 n] w fun e w' => e = .returned (.tuple #[]) ∧ ∃ v', All (xwC b v' (numS st n) :: cs) w' :=
  (xnum_any h.1.2.1 n hn hlen).mono fun e w' ⟨h1, v', h2, h3⟩ => ⟨h1, v', h.xstep h2 h3⟩
theorem xnatW {b : Nat} {v : Value} {st : Option (List UInt8)} {cs : List Comp} {w : World} (h : All (xwC b v st :: cs) w) (n : Nat) (hn : n < 9223372036854775808) (hlen : lenS st + 10 ≤ 140737488355328) : Calls Try.prog 46 #[.pointer (some ⟨b, 0, none⟩), .int .i64 (n : Int)] w fun e w' => e = .returned (.tuple #[]) ∧ ∃ v', All (xwC b v' (addS st (enc 9 n)) :: cs) w' := by
  have := xnumW h (n : Int) (by omega) hlen
  rw [numS_nat] at this
  exact this

theorem xdoneW {b : Nat} {v : Value} {bs : List UInt8} {cs : List Comp} {w : World} (h : All (xwC b v (some bs) :: cs) w) (hlen : bs.length ≤ 140737488355328) : Calls Try.prog 48 #[.pointer (some ⟨b, 0, none⟩)] w fun e w' => ∃ so sc, e = .returned (.tuple #[.slice so bs.length sc, .int .i64 0]) ∧ All (ownC 5 (.slice so bs.length sc) (cellsB bs) :: xwC b v (some bs) :: cs) w' :=
  (xdone_whole h.1.2.1 hlen).mono fun e w' ⟨s', h1, h2, h3⟩ => by
    obtain ⟨so, sc, rfl⟩ := owns_form h2
    exact ⟨so, sc, h1, h.addOwn h3 (by rw [cellsB_length]; exact h2)⟩

end Go.Proofs.Ytagdpfghooogfaa

namespace Go.Proofs.Ytagdpfghooogfaa
open Go.RowKit
set_option linter.unusedVariables false

/-- What is written of a result. -/
def putX (st : Option (List UInt8)) (c n : Int) (l : List ByteArray) : Option (List UInt8) :=
  if chkX c n l = 0 then (if c = 0 then addS (numS (numS st c) n) (itemsB l) else numS st c) else none

theorem itemsB_len (l : List ByteArray) : (itemsB l).length ≤ bulkT l + 10 := by
  have h1 := enc_len 9 l.length
  have h2 := textsB_len l
  rw [itemsB, List.length_append]
  omega

set_option maxHeartbeats 1600000 in
set_option maxRecDepth 1000000 in
theorem putR_any {b : Nat} {v : Value} {st : Option (List UInt8)} {s : Value} {l : List ByteArray} {cs : List Comp} {w : World} (h : All (wrC b v st :: cs) w) (hT : ∀ w', All cs w' → Txts w' s l) (c n : Int) (hc : c < 9223372036854775808) (hn : n < 9223372036854775808) (hlen : lenS st + bulkT l + 100 ≤ 140737488355328) (hl : l.length ≤ 1099511627776) :
    Calls Try.prog 39 #[.pointer (some ⟨b, 0, none⟩), resV c n s] w fun e w' => e = .returned (.tuple #[]) ∧ ∃ v', All (wrC b v' (putX st c n l) :: cs) w' := by
  obtain ⟨ao, cp, rfl⟩ := (hT w h.tail).form
  have A := hid (h.addBlk [.int .i64 c, .int .i64 n, .slice ao l.length cp] 37)
  have HT := hid hT
  clear h hT
  by_cases h0 : chkX c n l = 0
  case neg =>
    rw [putX, if_neg h0]
    have H0 := hid h0
    clear h0
    go_enter Try.func39, Try.ntmps39
    go_wp2_with fail
    refine (checkX_any c n (HT.out _ A.out.tail.tail) (by omega)).mono ?_
    rintro e w1 ⟨rfl, B⟩
    have A := hid (A.out.later B)
    clear B
    have h0 := H0.out
    generalize chkX c n l = ck at h0 ⊢
    have e0 : (ck != 0) = true := by simpa using h0
    clear h0
    go_wp2_with fail
    refine (numW A.out.swap (-1) (by omega) (by omega)).mono ?_
    rintro e w2 ⟨rfl, v2, A2⟩
    have A2 := hid A2
    clear A
    go_wp2
    refine bodyPost_ret (results_none rfl _ _ _) rfl ?_
    exact ⟨rfl, v2, A2.out.swap.tail⟩
  rw [putX, if_pos h0]
  have H0 := hid h0
  clear h0
  by_cases hc0 : c = 0
  · subst hc0
    rw [if_pos rfl]
    go_enter Try.func39, Try.ntmps39
    go_wp2_with fail
    refine (checkX_any 0 n (HT.out _ A.out.tail.tail) (by omega)).mono ?_
    rw [H0.out]
    rintro e w1 ⟨rfl, B⟩
    have A := hid (A.out.later B).swap
    clear B H0
    have hb := A.out.blk (g := w.heap.size) (vs := [.int .i64 0, .int .i64 n, .slice ao l.length cp]) (t := 37) mem2
    have o0 : w1.cell? ⟨w.heap.size, 0, none⟩ = some (.int .i64 0) := by rw [cell_at hb]; rfl
    clear hb
    go_wp2_with fail
    refine (numW A.out 0 (by omega) (by omega)).mono ?_
    rintro e w2 ⟨rfl, v2, A2⟩
    have A := hid A2
    have L := hid (lenS_num st 0)
    clear A2 o0
    have hb := A.out.blk (g := w.heap.size) (vs := [.int .i64 0, .int .i64 n, .slice ao l.length cp]) (t := 37) mem2
    have o0 : w2.cell? ⟨w.heap.size, 0, none⟩ = some (.int .i64 0) := by rw [cell_at hb]; rfl
    have o1 : w2.cell? ⟨w.heap.size, 1, none⟩ = some (.int .i64 n) := by rw [cell_at hb]; rfl
    clear hb
    go_wp2_with fail
    refine (numW A.out n (by omega) (by have := L.out; omega)).mono ?_
    rintro e w3 ⟨rfl, v3, A2⟩
    have A := hid A2
    have L := hid (Nat.le_trans (lenS_num (numS st 0) n) (Nat.add_le_add_right L.out 10))
    clear A2 o0 o1
    have hb := A.out.blk (g := w.heap.size) (vs := [.int .i64 0, .int .i64 n, .slice ao l.length cp]) (t := 37) mem2
    have o2 : w3.cell? ⟨w.heap.size, 2, none⟩ = some (.slice ao l.length cp) := by rw [cell_at hb]; rfl
    clear hb
    go_wp2_with fail
    refine (putItems_any A.out (fun w' hw' => HT.out w' hw'.tail) (by have := L.out; omega) hl).mono ?_
    rintro e w4 ⟨rfl, v4, A2⟩
    have A := hid A2
    clear A2 o2
    go_wp2
    go_end0
    exact ⟨rfl, v4, A.out.swap.tail⟩
  · rw [if_neg hc0]
    have ec : (c == 0) = false := by rw [beq_eq_false_iff_ne]; exact hc0
    go_enter Try.func39, Try.ntmps39
    go_wp2_with fail
    refine (checkX_any c n (HT.out _ A.out.tail.tail) (by omega)).mono ?_
    rw [H0.out]
    rintro e w1 ⟨rfl, B⟩
    have A := hid (A.out.later B).swap
    clear B H0
    have hb := A.out.blk (g := w.heap.size) (vs := [.int .i64 c, .int .i64 n, .slice ao l.length cp]) (t := 37) mem2
    have o0 : w1.cell? ⟨w.heap.size, 0, none⟩ = some (.int .i64 c) := by rw [cell_at hb]; rfl
    clear hb
    go_wp2_with fail
    refine (numW A.out c (by omega) (by omega)).mono ?_
    rintro e w2 ⟨rfl, v2, A2⟩
    have A := hid A2
    clear A2 o0
    have hb := A.out.blk (g := w.heap.size) (vs := [.int .i64 c, .int .i64 n, .slice ao l.length cp]) (t := 37) mem2
    have o0 : w2.cell? ⟨w.heap.size, 0, none⟩ = some (.int .i64 c) := by rw [cell_at hb]; rfl
    clear hb
    go_wp2
    go_end0
    exact ⟨rfl, v2, A.out.swap.tail⟩

set_option maxHeartbeats 1600000 in
set_option maxRecDepth 1000000 in
theorem rputR_any {b : Nat} {v : Value} {st : Option (List UInt8)} {s : Value} {l : List ByteArray} {cs : List Comp} {w : World} (h : All (xwC b v st :: cs) w) (hT : ∀ w', All cs w' → Txts w' s l) (c n : Int) (hc : c < 9223372036854775808) (hn : n < 9223372036854775808) (hlen : lenS st + bulkT l + 100 ≤ 140737488355328) (hl : l.length ≤ 1099511627776) :
    Calls Try.prog 47 #[.pointer (some ⟨b, 0, none⟩), resV c n s] w fun e w' => e = .returned (.tuple #[]) ∧ ∃ v', All (xwC b v' (putX st c n l) :: cs) w' := by
  obtain ⟨ao, cp, rfl⟩ := (hT w h.tail).form
  have A := hid (h.addBlk [.int .i64 c, .int .i64 n, .slice ao l.length cp] 37)
  have HT := hid hT
  clear h hT
  by_cases h0 : chkX c n l = 0
  case neg =>
    rw [putX, if_neg h0]
    have H0 := hid h0
    clear h0
    go_enter Try.func47, Try.ntmps47
    go_wp2_with fail
    refine (checkX_ref c n (HT.out _ A.out.tail.tail) (by omega)).mono ?_
    rintro e w1 ⟨rfl, B⟩
    have A := hid (A.out.later B)
    clear B
    have h0 := H0.out
    generalize chkX c n l = ck at h0 ⊢
    have e0 : (ck != 0) = true := by simpa using h0
    clear h0
    go_wp2_with fail
    refine (xnumW A.out.swap (-1) (by omega) (by omega)).mono ?_
    rintro e w2 ⟨rfl, v2, A2⟩
    have A2 := hid A2
    clear A
    go_wp2
    refine bodyPost_ret (results_none rfl _ _ _) rfl ?_
    exact ⟨rfl, v2, A2.out.swap.tail⟩
  rw [putX, if_pos h0]
  have H0 := hid h0
  clear h0
  by_cases hc0 : c = 0
  · subst hc0
    rw [if_pos rfl]
    go_enter Try.func47, Try.ntmps47
    go_wp2_with fail
    refine (checkX_ref 0 n (HT.out _ A.out.tail.tail) (by omega)).mono ?_
    rw [H0.out]
    rintro e w1 ⟨rfl, B⟩
    have A := hid (A.out.later B).swap
    clear B H0
    have hb := A.out.blk (g := w.heap.size) (vs := [.int .i64 0, .int .i64 n, .slice ao l.length cp]) (t := 37) mem2
    have o0 : w1.cell? ⟨w.heap.size, 0, none⟩ = some (.int .i64 0) := by rw [cell_at hb]; rfl
    clear hb
    go_wp2_with fail
    refine (xnumW A.out 0 (by omega) (by omega)).mono ?_
    rintro e w2 ⟨rfl, v2, A2⟩
    have A := hid A2
    have L := hid (lenS_num st 0)
    clear A2 o0
    have hb := A.out.blk (g := w.heap.size) (vs := [.int .i64 0, .int .i64 n, .slice ao l.length cp]) (t := 37) mem2
    have o0 : w2.cell? ⟨w.heap.size, 0, none⟩ = some (.int .i64 0) := by rw [cell_at hb]; rfl
    have o1 : w2.cell? ⟨w.heap.size, 1, none⟩ = some (.int .i64 n) := by rw [cell_at hb]; rfl
    clear hb
    go_wp2_with fail
    refine (xnumW A.out n (by omega) (by have := L.out; omega)).mono ?_
    rintro e w3 ⟨rfl, v3, A2⟩
    have A := hid A2
    have L := hid (Nat.le_trans (lenS_num (numS st 0) n) (Nat.add_le_add_right L.out 10))
    clear A2 o0 o1
    have hb := A.out.blk (g := w.heap.size) (vs := [.int .i64 0, .int .i64 n, .slice ao l.length cp]) (t := 37) mem2
    have o2 : w3.cell? ⟨w.heap.size, 2, none⟩ = some (.slice ao l.length cp) := by rw [cell_at hb]; rfl
    clear hb
    go_wp2_with fail
    refine (xnatW A.out l.length (by omega) (by have := L.out; omega)).mono ?_
    rintro e w4 ⟨rfl, v4, A2⟩
    have A := hid A2
    clear A2 o2
    generalize hST : numS (numS st 0) n = st2 at A L
    have HST := hid hST
    clear hST
    go_wp2
    go_loopw [4] (fun iv wr => ∃ (k : Nat) (v' : Value), iv = .int .i64 (k : Int) ∧ k ≤ l.length ∧ Hid (All (xwC b v' (addS st2 (enc 9 l.length ++ textsB (l.take k))) :: blkC w.heap.size [.int .i64 0, .int .i64 n, .slice ao l.length cp] 37 :: cs) wr)) (fun iv _ => l.length - (intOf iv).toNat)
    case atStart => exact ⟨0, v4, rfl, Nat.zero_le _, by simpa [textsB] using A⟩
    case round =>
      obtain ⟨k, v', rfl, hk, AR⟩ := hrel
      clear A
      have hb := AR.out.blk (g := w.heap.size) (vs := [.int .i64 0, .int .i64 n, .slice ao l.length cp]) (t := 37) mem2
      have o2 : wr.cell? ⟨w.heap.size, 2, none⟩ = some (.slice ao l.length cp) := by rw [cell_at hb]; rfl
      clear hb
      by_cases hlt : k < l.length
      · obtain ⟨g, o, ea, hg, hcell⟩ := (HT.out wr AR.out.tail.tail).at hlt
        subst ea
        have el : decide ((k : Int) < (l.length : Int)) = true := by simpa using hlt
        have HB : Hid (lenS (addS st2 (enc 9 l.length ++ textsB (l.take k))) + l[k].size + 10 ≤ 140737488355328) := by
          have h1 := lenS_addS st2 (enc 9 l.length ++ textsB (l.take k))
          have h2 := bulkT_take hlt
          have h3 := enc_len 9 l.length
          have h4 := L.out
          rw [List.length_append] at h1
          show _ ≤ _
          omega
        go_wp2_with fail
        refine (xtextW AR.out _ HB.out).mono ?_
        rintro e w5 ⟨rfl, v5, A2⟩
        rw [addS_addS, List.append_assoc, ← textsB_take hlt] at A2
        have A2 := hid A2
        clear AR HB o2
        go_wp2
        go_roundw
        case rel => exact ⟨k + 1, v5, by go_num, by omega, A2⟩
        case measure => simp [intOf]; omega
      · have el : decide ((k : Int) < (l.length : Int)) = false := by simp; omega
        go_wp2
        go_end0
        refine ⟨rfl, v', ?_⟩
        have := AR.out.swap.tail
        rw [List.take_of_length_le (by omega), ← HST.out] at this
        exact this
  · rw [if_neg hc0]
    have ec : (c != 0) = true := by simpa using hc0
    go_enter Try.func47, Try.ntmps47
    go_wp2_with fail
    refine (checkX_ref c n (HT.out _ A.out.tail.tail) (by omega)).mono ?_
    rw [H0.out]
    rintro e w1 ⟨rfl, B⟩
    have A := hid (A.out.later B).swap
    clear B H0
    have hb := A.out.blk (g := w.heap.size) (vs := [.int .i64 c, .int .i64 n, .slice ao l.length cp]) (t := 37) mem2
    have o0 : w1.cell? ⟨w.heap.size, 0, none⟩ = some (.int .i64 c) := by rw [cell_at hb]; rfl
    clear hb
    go_wp2_with fail
    refine (xnumW A.out c (by omega) (by omega)).mono ?_
    rintro e w2 ⟨rfl, v2, A2⟩
    have A := hid A2
    clear A2 o0
    have hb := A.out.blk (g := w.heap.size) (vs := [.int .i64 c, .int .i64 n, .slice ao l.length cp]) (t := 37) mem2
    have o0 : w2.cell? ⟨w.heap.size, 0, none⟩ = some (.int .i64 c) := by rw [cell_at hb]; rfl
    clear hb
    go_wp2
    refine bodyPost_ret (results_none rfl _ _ _) rfl ?_
    exact ⟨rfl, v2, A.out.swap.tail⟩
end Go.Proofs.Ytagdpfghooogfaa

namespace Go.Proofs.Ytagdpfghooogfaa
open Go.RowKit
set_option linter.unusedVariables false

/-- What a reader has left, where it is, whether it is broken. -/
structure Rst where
  rs : List UInt8
  place : Nat
  err : Int
/-- A reader, as a part. -/
def rdC (b : Nat) (D : Option Nat) (rv : Value) (r : Rst) : Comp := ⟨fun w => Rd w b D rv r.rs r.place r.err, b :: D.toList⟩
theorem rdC_good (b : Nat) (D : Option Nat) (rv : Value) (r : Rst) : (rdC b D rv r).Good := fun w w' h hl hk =>
  Rd.kept h hl.size (hk b (by simp [rdC])) (fun k hk' => hk k (by simp [rdC, h.own k hk']))
theorem All.rstep {b : Nat} {D : Option Nat} {rv rv' : Value} {r r' : Rst} {cs : List Comp} {w w' : World} (h : All (rdC b D rv r :: cs) w) (h1 : Rd w' b D rv' r'.rs r'.place r'.err) (h2 : Only b w w') : All (rdC b D rv' r' :: cs) w' := by
  refine h.turn ⟨h2.os, h2.tape, h2.output, h2.size, fun k hk hn => ?_⟩ (rdC_good _ _ _ _) h1 (fun k hk => Or.inl hk) (fun k hk => ?_)
  · simp [rdC] at hn
    exact h2.block k hk hn.1
  · simp [rdC] at hk
    rcases hk with rfl | hk
    · exact h1.lt
    · exact h1.old k hk

/-- Behind a number, a text, a failure. -/
def Rst.aft (r : Rst) (size : Nat) (e : Int) : Rst := ⟨(Go.Proofs.Ytagdpfghooogfaa.aft r.rs r.place r.err size e).1, (Go.Proofs.Ytagdpfghooogfaa.aft r.rs r.place r.err size e).2.1, (Go.Proofs.Ytagdpfghooogfaa.aft r.rs r.place r.err size e).2.2⟩
def Rst.num (r : Rst) (most : Int) : Rst := r.aft (numR r.rs most 13).2.1 (numR r.rs most 13).2.2
def Rst.numV (r : Rst) (most : Int) : Int := (numR r.rs most 13).1
def Rst.txt (r : Rst) (most : Int) : Rst := r.aft (runR r.rs most).2.1 (runR r.rs most).2.2
def Rst.txtV (r : Rst) (most : Int) : ByteArray := strB (runR r.rs most).1
def Rst.fail (r : Rst) (e : Int) : Rst := if e = 0 then r else ⟨[], r.place, keepE r.err e⟩

theorem numRd {b : Nat} {D : Option Nat} {rv : Value} {r : Rst} {cs : List Comp} {w : World} (h : All (rdC b D rv r :: cs) w) (hp : r.place + r.rs.length ≤ 140737488355328) (most : Int) : Calls Try.prog 55 #[.pointer (some ⟨b, 0, none⟩), .int .i64 most] w fun e w' => e = .returned (.int .i64 (r.numV most)) ∧ ∃ rv', All (rdC b D rv' (r.num most) :: cs) w' :=
  (Num_any h.1.2.1 hp most).mono fun e w' ⟨h1, ⟨rv', h2⟩, h3⟩ => ⟨h1, rv', h.rstep h2 h3⟩
theorem textRd {b : Nat} {D : Option Nat} {rv : Value} {r : Rst} {cs : List Comp} {w : World} (h : All (rdC b D rv r :: cs) w) (hp : r.place + r.rs.length ≤ 140737488355328) (most : Int) : Calls Try.prog 78 #[.pointer (some ⟨b, 0, none⟩), .int .i64 most] w fun e w' => e = .returned (.string (r.txtV most)) ∧ ∃ rv', All (rdC b D rv' (r.txt most) :: cs) w' :=
  (Text_any h.1.2.1 hp most).mono fun e w' ⟨h1, ⟨rv', h2⟩, h3⟩ => ⟨h1, rv', h.rstep h2 h3⟩
theorem errRd {b : Nat} {D : Option Nat} {rv : Value} {r : Rst} {cs : List Comp} {w : World} (h : All (rdC b D rv r :: cs) w) : Calls Try.prog 79 #[.pointer (some ⟨b, 0, none⟩)] w fun e w' => e = .returned (.tuple #[.int .i64 r.err, .int .i64 (r.place : Int)]) ∧ All (rdC b D rv r :: cs) w' :=
  (Err_any h.1.2.1).mono fun e w' ⟨h1, h2⟩ => ⟨h1, h.later h2⟩

set_option maxRecDepth 1000000 in
theorem fail0 {b : Nat} {D : Option Nat} {rv : Value} {rs : List UInt8} {place : Nat} {err : Int} {w : World} (h : Rd w b D rv rs place err) : Calls Try.prog 72 #[.pointer (some ⟨b, 0, none⟩), .int .i64 0] w fun e w' => e = .returned (.tuple #[]) ∧ w' = w := by
  have c2 : w.cell? ⟨b, 2, none⟩ = some (.int .i64 err) := by rw [cell_at h.box]; rfl
  clear h
  by_cases hz : err = 0
  · subst hz
    go_enter Try.func72, Try.ntmps72
    go_wp2
    go_end0
    exact ⟨rfl, rfl⟩
  · have hb1 : (err == 0) = false := by simpa using hz
    go_enter Try.func72, Try.ntmps72
    go_wp2
    go_end0
    exact ⟨rfl, rfl⟩
theorem failRd {b : Nat} {D : Option Nat} {rv : Value} {r : Rst} {cs : List Comp} {w : World} (h : All (rdC b D rv r :: cs) w) (e0 : Int) : Calls Try.prog 72 #[.pointer (some ⟨b, 0, none⟩), .int .i64 e0] w fun e w' => e = .returned (.tuple #[]) ∧ ∃ rv', All (rdC b D rv' (r.fail e0) :: cs) w' := by
  by_cases he : e0 = 0
  · subst he
    refine (fail0 h.1.2.1).mono ?_
    rintro e w' ⟨h1, rfl⟩
    refine ⟨h1, rv, ?_⟩
    rw [Rst.fail, if_pos rfl]
    exact h
  · refine (rfail_any h.1.2.1 e0 he).mono ?_
    rintro e w' ⟨h1, ⟨rv', h2⟩, h3⟩
    refine ⟨h1, rv', h.rstep ?_ h3⟩
    rw [Rst.fail, if_neg he]
    exact h2

set_option maxRecDepth 1000000 in
theorem wholeRd {b : Nat} {D : Option Nat} {rv : Value} {r : Rst} {cs : List Comp} {w : World} (h : All (rdC b D rv r :: cs) w) : Calls Try.prog 71 #[.pointer (some ⟨b, 0, none⟩)] w fun e w' => e = .returned (.bool (r.err == 0)) ∧ All (rdC b D rv r :: cs) w' := by
  have HH := hid h
  clear h
  go_enter Try.func71, Try.ntmps71
  go_wp2_with fail
  refine (errRd HH.out).mono ?_
  rintro e w1 ⟨rfl, A1⟩
  have A1 := hid A1
  clear HH
  go_wp2
  go_ret
  exact ⟨rfl, A1.out⟩
end Go.Proofs.Ytagdpfghooogfaa

namespace Go.Proofs.Ytagdpfghooogfaa
open Go.RowKit
set_option linter.unusedVariables false

theorem Try.info9 : (Try.prog.info? 9).map (fun i => (i.zero, i.size, i.bytes)) = some (some (.string (.mk #[])), 1, 16) := by kernel_rfl

/-- Texts as cells. -/
def cellsT (l : List ByteArray) : List Value := l.map .string
theorem cellsT_length (l : List ByteArray) : (cellsT l).length = l.length := by simp [cellsT]
theorem cellsT_one (l : List ByteArray) : ∀ u ∈ cellsT l, u.oneCell' = true := by
  intro u hu
  obtain ⟨_, _, rfl⟩ := List.mem_map.1 hu
  rfl

theorem Txts.of_owns {w : World} {base : Nat} {s : Value} {l : List ByteArray} (h : w.ownsRow base 9 1 s l.length (cellsT l)) : Txts w s l := by
  have hc := fun g => h.cells (g := g)
  rcases h.2 with ⟨rfl, e⟩ | ⟨g, cap, cur, rfl, hg, hgg, hn, _⟩
  · exact ⟨none, 0, by rw [e], by omega, Or.inl (List.eq_nil_of_length_eq_zero e)⟩
  · refine ⟨_, cap, rfl, hn, Or.inr ⟨g, 0, rfl, (Array.getElem?_eq_some_iff.1 hgg).1, fun j hj => ?_⟩⟩
    have := hc g rfl j (.string l[j]) (by simp [cellsT, hj])
    simpa [Addr.add_lit] using this

set_option maxHeartbeats 800000 in
set_option maxRecDepth 1000000 in
theorem tclone_some {w : World} (a : Addr) (c : Nat) (l : List ByteArray) (hc : ∀ j u, (cellsT l)[j]? = some u → w.cell? (a.add j) = some u) (hg : l ≠ [] → ∃ g o, a = ⟨g, o, none⟩ ∧ g < w.heap.size) (hlen : l.length ≤ 1000) :
    Calls Try.prog 43 #[.slice (some a) l.length c] w fun e w' => ∃ s', e = .returned s' ∧ w'.ownsRow w.heap.size 9 1 s' l.length (cellsT l) ∧ Below w.heap.size w w' := by
  obtain ⟨i0, hi, hz0, hz1, hz2⟩ := info_parts Try.info9
  have he := fun w => Lib.run_eql_slice_nil (P := Try.prog) w 35 9 (some a) l.length c 0 0 Try.underlying35
  have hnews : ∀ j u, (cellsT l)[j]? = some u → (w.alloc (.cells #[] 9)).cell? (a.add j) = some u := by
    intro j u hu
    have hne : l ≠ [] := by rintro rfl; simp [cellsT] at hu
    obtain ⟨g, o, rfl, hgl⟩ := hg hne
    have := hc j u hu
    rw [Addr.add_lit] at this ⊢
    rw [World.cell?_alloc_past _ _ _ hgl]
    exact this
  clear hc hg
  have h0 : (w.alloc (.cells #[] 9)).ownsRow w.heap.size 9 1 (.slice (some ⟨w.heap.size, 0, none⟩) 0 0) 0 [] := World.ownsRow_made w #[] 0 (Nat.le_refl _) (by unfold maxLen; omega) rfl
  go_enter Try.func43, Try.ntmps43
  go_wp2_with (at_builtin; refine wpList_append_own_at _ rfl (.tmp 5) (.tmp 6) 35 rfl w.heap.size 9 i0 (.string (.mk #[])) 1 16 Try.underlying35 hi hz0 hz1 hz2 rfl (by decide) _ _ _ rfl h0 a l.length c (cellsT l) rfl (by rw [cellsT_length]; omega) hnews (cellsT_one _) (by unfold maxLen; omega) (by omega) (by simp) ?_)
  intro v' w1 hown hgr hnil hat
  have R : Hid (w1.ownsRow w.heap.size 9 1 v' l.length (cellsT l) ∧ Below w.heap.size w w1) := by
    refine ⟨by simpa using hown, ((Below.refl _ _).alloc (Nat.le_refl _) _).grown hgr (by simp) (fun k hk => ?_)⟩
    simp [Value.ownBlock] at hk
    omega
  clear hown hgr hnil hat h0
  go_wp2
  go_ret
  exact ⟨v', rfl, R.out.1, R.out.2⟩

set_option maxHeartbeats 800000 in
set_option maxRecDepth 1000000 in
theorem tclone_none {w : World} (c : Nat) :
    Calls Try.prog 43 #[.slice none 0 c] w fun e w' => e = .returned (.slice none 0 0) ∧ w' = w := by
  have he := fun w => Lib.run_eql_slice_nil (P := Try.prog) w 35 9 none 0 c 0 0 Try.underlying35
  go_enter Try.func43, Try.ntmps43
  go_wp2
  go_ret
  exact ⟨rfl, rfl⟩

theorem tclone_any {w : World} {s : Value} {l : List ByteArray} (h : Txts w s l) (hlen : l.length ≤ 1000) :
    Calls Try.prog 43 #[s] w fun e w' => ∃ s', e = .returned s' ∧ w'.ownsRow w.heap.size 9 1 s' l.length (cellsT l) ∧ Below w.heap.size w w' := by
  obtain ⟨ao, c, rfl, hc, hx⟩ := h
  have hx' : (l = [] ∧ ao = none) ∨ ∃ a, ao = some a ∧ (l ≠ [] → ∃ g o, a = ⟨g, o, none⟩ ∧ g < w.heap.size) ∧ ∀ j u, (cellsT l)[j]? = some u → w.cell? (a.add j) = some u := by
    rcases hx with rfl | ⟨g, o, rfl, hg, hcell⟩
    · cases ao with
      | none => exact .inl ⟨rfl, rfl⟩
      | some a => exact .inr ⟨a, rfl, fun h => absurd rfl h, fun j u hu => by simp [cellsT] at hu⟩
    · refine .inr ⟨_, rfl, fun _ => ⟨_, _, rfl, hg⟩, fun j u hu => ?_⟩
      simp only [cellsT, List.getElem?_map] at hu
      obtain ⟨x, hx, rfl⟩ := Option.map_eq_some_iff.1 hu
      obtain ⟨hj, rfl⟩ := List.getElem?_eq_some_iff.1 hx
      rw [Addr.add_lit]
      exact hcell j hj
  rcases hx' with ⟨rfl, rfl⟩ | ⟨a, rfl, hg, hcell⟩
  · refine (tclone_none c).mono ?_
    rintro e w' ⟨rfl, rfl⟩
    exact ⟨_, rfl, World.ownsRow_nil _ _ _ _, Below.refl _ _⟩
  · exact tclone_some a c l hcell hg hlen

end Go.Proofs.Ytagdpfghooogfaa

namespace Go.Proofs.Ytagdpfghooogfaa
open Go.RowKit
set_option linter.unusedVariables false

abbrev rowV (n a c k : Int) (s : Value) : Value := .agg #[.int .i64 n, .int .i64 a, .int .i64 c, .int .i64 k, s]

/-- May a row be? -/
def may (n a c k : Int) (l : List ByteArray) : Bool := decide (1 ≤ n ∧ n ≤ 1099511627776 ∧ 1 ≤ a ∧ a ≤ 1099511627776 ∧ chkX c k l = 0)

theorem isClient_any {w : World} (c : Int) : Calls Try.prog 27 #[.int .i64 c] w fun e w' => e = .returned (.bool (decide (0 ≤ c ∧ c < 8))) ∧ w' = w := by
  by_cases h0 : 0 ≤ c
  · have e0 : decide (0 ≤ c) = true := by simpa using h0
    have e : decide (0 ≤ c ∧ c < 8) = decide (c < 8) := by rw [Bool.eq_iff_iff]; simp [h0]
    rw [e]
    clear e
    go_enter Try.func27, Try.ntmps27
    go_wp2
    go_ret
    exact ⟨rfl, rfl⟩
  · have e0 : decide (0 ≤ c) = false := by simpa using h0
    have e : decide (0 ≤ c ∧ c < 8) = false := by simp [h0]
    rw [e]
    clear e
    go_enter Try.func27, Try.ntmps27
    go_wp2
    go_ret
    exact ⟨rfl, rfl⟩

theorem rises_any {w : World} (n a c k n' a' c' k' : Int) (s s' : Value) : Calls Try.prog 30 #[rowV n a c k s, rowV n' a' c' k' s'] w fun e w' => e = .returned (.bool (decide (n < n' ∧ a < a'))) ∧ Below w.heap.size w w' := by
  by_cases h0 : n < n'
  · have e0 : decide (n < n') = true := by simpa using h0
    have e : decide (n < n' ∧ a < a') = decide (a < a') := by rw [Bool.eq_iff_iff]; simp [h0]
    rw [e]
    clear e
    go_enter Try.func30, Try.ntmps30
    go_wp2
    go_ret
    exact ⟨rfl, (ba _ _).trans ((ba _ _).mono (by simp))⟩
  · have e0 : decide (n < n') = false := by simpa using h0
    have e : decide (n < n' ∧ a < a') = false := by simp [h0]
    rw [e]
    clear e
    go_enter Try.func30, Try.ntmps30
    go_wp2
    go_ret
    exact ⟨rfl, (ba _ _).trans ((ba _ _).mono (by simp))⟩

theorem mayBe_any {w : World} (n a c k : Int) {s : Value} {l : List ByteArray} (h : Txts w s l) (hl : l.length ≤ 9223372036854775807) : Calls Try.prog 28 #[rowV n a c k s] w fun e w' => e = .returned (.bool (may n a c k l)) ∧ Below w.heap.size w w' := by
  obtain ⟨ao, cp, rfl⟩ := h.form
  have HT := hid h
  clear h
  by_cases h0 : 1 ≤ n
  · have e0 : decide (1 ≤ n) = true := by simpa using h0
    by_cases h1 : n ≤ 1099511627776
    · have e1 : decide (n ≤ 1099511627776) = true := by simpa using h1
      by_cases h2 : 1 ≤ a
      · have e2 : decide (1 ≤ a) = true := by simpa using h2
        by_cases h3 : a ≤ 1099511627776
        · have e3 : decide (a ≤ 1099511627776) = true := by simpa using h3
          have F : Hid (may n a c k l = (chkX c k l == 0)) := by show _ = _; unfold may; rw [Bool.eq_iff_iff]; simp [h0, h1, h2, h3]
          go_enter Try.func28, Try.ntmps28
          go_wp2_with fail
          refine (checkX_any c k (HT.out.alloc _) hl).mono ?_
          rintro e w1 ⟨rfl, B⟩
          have B := hid ((ba _ _).trans (B.mono (by simp)))
          generalize chkX c k l = ck at F ⊢
          go_wp2
          go_ret
          exact ⟨by rw [F.out]; rfl, B.out⟩
        · have e3 : decide (a ≤ 1099511627776) = false := by simpa using h3
          have F : Hid (may n a c k l = false) := by show _ = _; simp [may, h3]
          go_enter Try.func28, Try.ntmps28
          go_wp2
          go_ret
          exact ⟨by rw [F.out]; rfl, by first | exact Below.refl _ _ | exact ba _ _⟩
      · have e2 : decide (1 ≤ a) = false := by simpa using h2
        have F : Hid (may n a c k l = false) := by show _ = _; simp [may, h2]
        go_enter Try.func28, Try.ntmps28
        go_wp2
        go_ret
        exact ⟨by rw [F.out]; rfl, by first | exact Below.refl _ _ | exact ba _ _⟩
    · have e1 : decide (n ≤ 1099511627776) = false := by simpa using h1
      have F : Hid (may n a c k l = false) := by show _ = _; simp [may, h1]
      go_enter Try.func28, Try.ntmps28
      go_wp2
      go_ret
      exact ⟨by rw [F.out]; rfl, by first | exact Below.refl _ _ | exact ba _ _⟩
  · have e0 : decide (1 ≤ n) = false := by simpa using h0
    have F : Hid (may n a c k l = false) := by show _ = _; simp [may, h0]
    go_enter Try.func28, Try.ntmps28
    go_wp2
    go_ret
    exact ⟨by rw [F.out]; rfl, by first | exact Below.refl _ _ | exact ba _ _⟩

theorem All.rev3 {a b c : Comp} {cs : List Comp} {w : World} (h : All (a :: b :: c :: cs) w) : All (c :: b :: a :: cs) w :=
  h.perm ((List.Perm.swap _ _ _).trans ((List.Perm.cons _ (List.Perm.swap _ _ _)).trans (List.Perm.swap _ _ _)))

theorem res31 {tmps : Array Value} {w : World} {b : Nat} {n a c k : Int} {s : Value} (ht : tmps.getD 2 undef = .pointer (some ⟨b, 0, none⟩)) (h : w.heap[b]? = some (.cells #[.int .i64 n, .int .i64 a, .int .i64 c, .int .i64 k, s] 39 (0, 0))) : (results Try.f31 tmps).run Try.prog w = .ok (rowV n a c k s) w := by
  have hp' : tmps[2]?.getD undef = .pointer (some ⟨b, 0, none⟩) := by simpa using ht
  have hres : Try.f31.results = #[.cell 2 39] := rfl
  have x0 : w.cell? ⟨b, 0, none⟩ = some (.int .i64 n) := by rw [cell_at h]; rfl
  have x1 : w.cell? ⟨b, 1, none⟩ = some (.int .i64 a) := by rw [cell_at h]; rfl
  have x2 : w.cell? ⟨b, 2, none⟩ = some (.int .i64 c) := by rw [cell_at h]; rfl
  have x3 : w.cell? ⟨b, 3, none⟩ = some (.int .i64 k) := by rw [cell_at h]; rfl
  have x4 : w.cell? ⟨b, 4, none⟩ = some s := by rw [cell_at h]; rfl
  simp only [results, hres]
  go_simp

theorem copied_any {cs : List Comp} {w : World} (hA : All cs w) (n a c k : Int) {s : Value} {l : List ByteArray} (h : Txts w s l) (hl : l.length ≤ 1000) : Calls Try.prog 31 #[rowV n a c k s] w fun e w' => ∃ ao c', e = .returned (rowV n a c k (.slice ao l.length c')) ∧ All (ownC 9 (.slice ao l.length c') (cellsT l) :: cs) w' ∧ Below w.heap.size w w' := by
  obtain ⟨ao, cp, rfl⟩ := h.form
  have HT := hid h
  have HA := hid ((hA.addBlk [.int .i64 n, .int .i64 a, .int .i64 c, .int .i64 k, .slice ao l.length cp] 39).addBlk [.int .i64 0, .int .i64 0, .int .i64 0, .int .i64 0, .slice none 0 0] 39)
  clear h hA
  go_enter Try.func31, Try.ntmps31
  go_wp2_with fail
  refine (tclone_any ((HT.out.alloc _).alloc _) hl).mono ?_
  rintro e w1 ⟨s', rfl, O1, B1⟩
  have HA1 := hid (HA.out.addOwn B1 (by rw [cellsT_length]; exact O1))
  have HB := hid B1
  clear HA
  have ex : w1.heap[w.heap.size]? = some (.cells #[.int .i64 n, .int .i64 a, .int .i64 c, .int .i64 k, .slice ao l.length cp] 39 (0, 0)) := (B1.block _ (by simp; omega)).trans ((Below.heap_alloc _ _ _ (by simp)).trans (heap_alloc_new w _))
  have er : w1.heap[w.heap.size + 1]? = some (.cells #[.int .i64 0, .int .i64 0, .int .i64 0, .int .i64 0, .slice none 0 0] 39 (0, 0)) := (B1.block _ (by simp)).trans (by have := heap_alloc_new (w.alloc (.cells #[.int .i64 n, .int .i64 a, .int .i64 c, .int .i64 k, .slice ao l.length cp] 39)) (.cells #[.int .i64 0, .int .i64 0, .int .i64 0, .int .i64 0, .slice none 0 0] 39); simpa using this)
  have x0 : w1.cell? ⟨w.heap.size, 0, none⟩ = some (.int .i64 n) := by rw [cell_at ex]; rfl
  have x1 : w1.cell? ⟨w.heap.size, 1, none⟩ = some (.int .i64 a) := by rw [cell_at ex]; rfl
  have x2 : w1.cell? ⟨w.heap.size, 2, none⟩ = some (.int .i64 c) := by rw [cell_at ex]; rfl
  have x3 : w1.cell? ⟨w.heap.size, 3, none⟩ = some (.int .i64 k) := by rw [cell_at ex]; rfl
  have x4 : w1.cell? ⟨w.heap.size, 4, none⟩ = some (.slice ao l.length cp) := by rw [cell_at ex]; rfl
  have fx := free_at ex 4
  have r0 : w1.cell? ⟨w.heap.size + 1, 0, none⟩ = some (.int .i64 0) := by rw [cell_at er]; rfl
  have r1 : w1.cell? ⟨w.heap.size + 1, 1, none⟩ = some (.int .i64 0) := by rw [cell_at er]; rfl
  have r2 : w1.cell? ⟨w.heap.size + 1, 2, none⟩ = some (.int .i64 0) := by rw [cell_at er]; rfl
  have r3 : w1.cell? ⟨w.heap.size + 1, 3, none⟩ = some (.int .i64 0) := by rw [cell_at er]; rfl
  have r4 : w1.cell? ⟨w.heap.size + 1, 4, none⟩ = some (.slice none 0 0) := by rw [cell_at er]; rfl
  have fr0 := free_at er 0
  have fr1 := free_at er 1
  have fr2 := free_at er 2
  have fr3 := free_at er 3
  have fr4 := free_at er 4
  have EX := hid ex
  have ER := hid er
  obtain ⟨so, sc, rfl⟩ := owns_form O1
  clear O1 B1 ex er
  go_wp2
  have A2 := ((((((HA1.out.rev3.setBlk 4 (.slice so l.length sc)).swap.setBlk 0 (.int .i64 n)).setBlk 1 (.int .i64 a)).setBlk 2 (.int .i64 c)).setBlk 3 (.int .i64 k)).setBlk 4 (.slice so l.length sc))
  simp only [World.size_alloc] at A2
  refine bodyPost_ret (v := rowV n a c k (.slice so l.length sc)) (res31 (b := w.heap.size + 1) rfl A2.1.2.1) rfl ?_
  refine ⟨so, sc, rfl, A2.tail.tail, ?_⟩
  have B0 : Below w.heap.size w w1 := ((ba _ _).trans ((ba _ _).mono (by simp))).trans (HB.out.mono (by simp; omega))
  exact (((((B0.setCell (by simp) _).setCell (by simp) _).setCell (by simp) _).setCell (by simp) _).setCell (by simp) _).setCell (by simp) _

end Go.Proofs.Ytagdpfghooogfaa

namespace Go.Proofs.Ytagdpfghooogfaa
open Go.RowKit
set_option linter.unusedVariables false

/-- A client's place. -/
structure Pl where
  on : Bool
  n : Int
  a : Int
  c : Int
  k : Int
  s : Value
  l : List ByteArray
def Pl.cells (p : Pl) : List Value := [.bool p.on, .int .i64 p.n, .int .i64 p.a, .int .i64 p.c, .int .i64 p.k, p.s]
def Pl.part (p : Pl) : Comp := ownC 9 p.s (cellsT p.l)
def Pl.zero : Pl := ⟨false, 0, 0, 0, 0, .slice none 0 0, []⟩
/-- What a place may have. -/
def Pl.none (p : Pl) : Prop := p.n = 0 ∧ p.a = 0 ∧ p.c = 0 ∧ p.k = 0 ∧ p.l = []
def Pl.ok (p : Pl) : Prop := p.on = false ∧ p.none ∨ p.on = true ∧ may p.n p.a p.c p.k p.l = true

def flatP (ps : List Pl) : List Value := ps.flatMap Pl.cells

theorem flatP_at {ps : List Pl} {i : Nat} {p : Pl} (h : ps[i]? = some p) {j : Nat} (hj : j < 6) : (flatP ps)[i * 6 + j]? = p.cells[j]? := by
  induction ps generalizing i with
  | nil => simp at h
  | cons q ps ih =>
    have hq : q.cells.length = 6 := rfl
    cases i with
    | zero =>
      have : q = p := by simpa using h
      subst this
      simp only [flatP, List.flatMap_cons, Nat.zero_mul, Nat.zero_add]
      rw [List.getElem?_append_left (by omega)]
    | succ i =>
      have := ih (i := i) (by simpa using h)
      simp only [flatP, List.flatMap_cons]
      rw [List.getElem?_append_right (by omega), ← this, flatP]
      congr 1
      omega

theorem flatP_set {ps : List Pl} {i : Nat} {p q : Pl} (h : ps[i]? = some p) : ((((((flatP ps).set (i * 6) (.bool q.on)).set (i * 6 + 1) (.int .i64 q.n)).set (i * 6 + 2) (.int .i64 q.a)).set (i * 6 + 3) (.int .i64 q.c)).set (i * 6 + 4) (.int .i64 q.k)).set (i * 6 + 5) q.s = flatP (ps.set i q) := by
  induction ps generalizing i with
  | nil => simp at h
  | cons r ps ih =>
    cases i with
    | zero => simp [flatP, Pl.cells]
    | succ i =>
      have := ih (i := i) (by simpa using h)
      have e : ∀ (m : Nat) (u : Value) (L : List Value), (r.cells ++ L).set (6 + m) u = r.cells ++ L.set m u := fun m u L => by
        rw [List.set_append_right _ _ (by simp [Pl.cells])]; simp [Pl.cells]
      have e0 : (i + 1) * 6 = 6 + i * 6 := by omega
      simp only [flatP, List.flatMap_cons, List.set_cons_succ] at this ⊢
      rw [e0]
      simp only [Nat.add_assoc, e]
      rw [this]

/-- A roll, as parts. -/
def rollL (g : Nat) (ps : List Pl) : List Comp := blkC g (flatP ps) 69 :: ps.map Pl.part

theorem has_any {g i : Nat} {ps : List Pl} {p : Pl} {w : World} (h : w.heap[g]? = some (.cells (flatP ps).toArray 69 (0, 0))) (hp : ps[i]? = some p) (hi : i < 8) : Calls Try.prog 29 #[.pointer (some ⟨g, 0, none⟩), .int .i64 (i : Int)] w fun e w' => e = .returned (.bool p.on) ∧ w' = w := by
  have c0 : w.cell? ⟨g, i * 6, none⟩ = some (.bool p.on) := by
    rw [cell_at h]
    exact (List.getElem?_toArray ..).trans (flatP_at hp (j := 0) (by omega))
  clear h
  have e : decide ((0 : Int) ≤ (i : Int) ∧ (i : Int) < 8) = true := by simp; omega
  have hI : (i : Int) < 8 := by omega
  go_enter Try.func29, Try.ntmps29
  go_wp2_with fail
  refine (isClient_any _).mono ?_
  rintro e w1 ⟨rfl, rfl⟩
  rw [e]
  go_wp2
  go_ret
  exact ⟨rfl, rfl⟩

theorem has_none {r : Value} {c : Int} {w : World} (hc : ¬ (0 ≤ c ∧ c < 8)) : Calls Try.prog 29 #[r, .int .i64 c] w fun e w' => e = .returned (.bool false) ∧ w' = w := by
  have e : decide ((0 : Int) ≤ c ∧ c < 8) = false := by simpa using hc
  clear hc
  go_enter Try.func29, Try.ntmps29
  go_wp2_with fail
  refine (isClient_any _).mono ?_
  rintro e w1 ⟨rfl, rfl⟩
  rw [e]
  go_wp2
  go_ret
  exact ⟨rfl, rfl⟩

/-- The row's cells of a place. -/
theorem cells5 {g i : Nat} {ps : List Pl} {p : Pl} {w : World} (h : w.heap[g]? = some (.cells (flatP ps).toArray 69 (0, 0))) (hp : ps[i]? = some p) :
    w.cell? ⟨g, i * 6, none⟩ = some (.bool p.on) ∧ w.cell? ⟨g, i * 6 + 1, none⟩ = some (.int .i64 p.n) ∧ w.cell? ⟨g, i * 6 + 2, none⟩ = some (.int .i64 p.a) ∧ w.cell? ⟨g, i * 6 + 3, none⟩ = some (.int .i64 p.c) ∧ w.cell? ⟨g, i * 6 + 4, none⟩ = some (.int .i64 p.k) ∧ w.cell? ⟨g, i * 6 + 5, none⟩ = some p.s := by
  refine ⟨?_, ?_, ?_, ?_, ?_, ?_⟩
  · rw [cell_at h]; exact (List.getElem?_toArray ..).trans (flatP_at hp (j := 0) (by omega))
  · rw [cell_at h]; exact (List.getElem?_toArray ..).trans (flatP_at hp (j := 1) (by omega))
  · rw [cell_at h]; exact (List.getElem?_toArray ..).trans (flatP_at hp (j := 2) (by omega))
  · rw [cell_at h]; exact (List.getElem?_toArray ..).trans (flatP_at hp (j := 3) (by omega))
  · rw [cell_at h]; exact (List.getElem?_toArray ..).trans (flatP_at hp (j := 4) (by omega))
  · rw [cell_at h]; exact (List.getElem?_toArray ..).trans (flatP_at hp (j := 5) (by omega))

theorem All.place {g i : Nat} {ps : List Pl} {p : Pl} {cs : List Comp} {w : World} (h : All (rollL g ps ++ cs) w) (hp : ps[i]? = some p) : w.heap[g]? = some (.cells (flatP ps).toArray 69 (0, 0)) ∧ Txts w p.s p.l := by
  refine ⟨h.blk (by simp [rollL]), ?_⟩
  have hm : p.part ∈ rollL g ps ++ cs := List.mem_append_left _ (List.mem_cons_of_mem _ (List.mem_map_of_mem (List.mem_of_getElem? hp)))
  have := (h.mem hm).2.1
  exact Txts.of_owns (by have h2 : w.ownsRow 0 9 1 p.s (cellsT p.l).length (cellsT p.l) := this; rw [cellsT_length] at h2; exact h2)

theorem res22 {tmps : Array Value} {w : World} {b : Nat} {n a c k : Int} {s v : Value} (ht : tmps.getD 4 undef = .pointer (some ⟨b, 0, none⟩)) (hv : tmps.getD 5 undef = v) (h : w.heap[b]? = some (.cells #[.int .i64 n, .int .i64 a, .int .i64 c, .int .i64 k, s] 39 (0, 0))) : (results Try.f22 tmps).run Try.prog w = .ok (.tuple #[rowV n a c k s, v]) w := by
  have hp' : tmps[4]?.getD undef = .pointer (some ⟨b, 0, none⟩) := by simpa using ht
  have hv' : tmps[5]?.getD undef = v := by simpa using hv
  have hres : Try.f22.results = #[.cell 4 39, .tmp 5] := rfl
  have x0 : w.cell? ⟨b, 0, none⟩ = some (.int .i64 n) := by rw [cell_at h]; rfl
  have x1 : w.cell? ⟨b, 1, none⟩ = some (.int .i64 a) := by rw [cell_at h]; rfl
  have x2 : w.cell? ⟨b, 2, none⟩ = some (.int .i64 c) := by rw [cell_at h]; rfl
  have x3 : w.cell? ⟨b, 3, none⟩ = some (.int .i64 k) := by rw [cell_at h]; rfl
  have x4 : w.cell? ⟨b, 4, none⟩ = some s := by rw [cell_at h]; rfl
  simp only [results, hres]
  go_simp

set_option maxRecDepth 1000000 in
/-- Last, of a client that has a row. -/
theorem last_on {g i : Nat} {ps : List Pl} {p : Pl} {cs : List Comp} {w : World} (h : All (rollL g ps ++ cs) w) (hp : ps[i]? = some p) (hi : i < 8) (hon : p.on = true) (hl : p.l.length ≤ 1000) : Calls Try.prog 22 #[.pointer (some ⟨g, 0, none⟩), .int .i64 (i : Int)] w fun e w' => ∃ ao c', e = .returned (.tuple #[rowV p.n p.a p.c p.k (.slice ao p.l.length c'), .bool true]) ∧ All (ownC 9 (.slice ao p.l.length c') (cellsT p.l) :: (rollL g ps ++ cs)) w' := by
  obtain ⟨hg, hT⟩ := h.place hp
  have HH := hid (hg)
  obtain ⟨c0, c1, c2, c3, c4, c5⟩ := cells5 hg hp
  obtain ⟨ao, cp, e5⟩ := hT.form
  have HT := hid hT
  have HA := hid h
  have HP := hid hp
  have hgl : g < w.heap.size := (Array.getElem?_eq_some_iff.1 hg).1
  have hI : (i : Int) < 8 := by omega
  rw [e5] at c5
  clear h hg hT
  go_enter Try.func22, Try.ntmps22
  go_wp2_with fail
  refine (has_any ((Below.heap_alloc _ _ _ hgl).trans HH.out) HP.out hi).mono ?_
  rw [hon]
  rintro e w1 ⟨rfl, rfl⟩
  have HA1 := hid (HA.out.addBlk [.int .i64 0, .int .i64 0, .int .i64 0, .int .i64 0, .slice none 0 0] 39)
  clear HA HH
  go_wp2_with fail
  refine (copied_any HA1.out p.n p.a p.c p.k (e5 ▸ HT.out.alloc _) hl).mono ?_
  rintro e w1 ⟨ao', c', rfl, A2, B2⟩
  have er : w1.heap[w.heap.size]? = some (.cells #[.int .i64 0, .int .i64 0, .int .i64 0, .int .i64 0, .slice none 0 0] 39 (0, 0)) := A2.tail.1.2.1
  have r0 : w1.cell? ⟨w.heap.size, 0, none⟩ = some (.int .i64 0) := by rw [cell_at er]; rfl
  have r1 : w1.cell? ⟨w.heap.size, 1, none⟩ = some (.int .i64 0) := by rw [cell_at er]; rfl
  have r2 : w1.cell? ⟨w.heap.size, 2, none⟩ = some (.int .i64 0) := by rw [cell_at er]; rfl
  have r3 : w1.cell? ⟨w.heap.size, 3, none⟩ = some (.int .i64 0) := by rw [cell_at er]; rfl
  have r4 : w1.cell? ⟨w.heap.size, 4, none⟩ = some (.slice none 0 0) := by rw [cell_at er]; rfl
  have fr0 := free_at er 0
  have fr1 := free_at er 1
  have fr2 := free_at er 2
  have fr3 := free_at er 3
  have fr4 := free_at er 4
  have HA2 := hid A2
  clear er A2 B2 HA1 HT
  go_wp2
  have A3 := ((((HA2.out.swap.setBlk 0 (.int .i64 p.n)).setBlk 1 (.int .i64 p.a)).setBlk 2 (.int .i64 p.c)).setBlk 3 (.int .i64 p.k)).setBlk 4 (.slice ao' p.l.length c')
  refine bodyPost_ret (v := .tuple #[rowV p.n p.a p.c p.k (.slice ao' p.l.length c'), .bool true]) (res22 (b := w.heap.size) rfl rfl A3.1.2.1) rfl ?_
  exact ⟨ao', c', rfl, A3.tail⟩

set_option maxRecDepth 1000000 in
theorem last_off {g : Nat} {c : Int} {ps : List Pl} {cs : List Comp} {w : World} (h : All (rollL g ps ++ cs) w) (hn : ∀ w', All (rollL g ps ++ cs) w' → Calls Try.prog 29 #[.pointer (some ⟨g, 0, none⟩), .int .i64 c] w' fun e w2 => e = .returned (.bool false) ∧ w2 = w') : Calls Try.prog 22 #[.pointer (some ⟨g, 0, none⟩), .int .i64 c] w fun e w' => e = .returned (.tuple #[rowV 0 0 0 0 (.slice none 0 0), .bool false]) ∧ All (rollL g ps ++ cs) w' := by
  have HN := hid hn
  have HA := hid h
  clear h hn
  go_enter Try.func22, Try.ntmps22
  go_wp2_with fail
  refine (HN.out _ (HA.out.later (ba _ _))).mono ?_
  rintro e w1 ⟨rfl, hw1⟩
  have HA1 := hid (HA.out.addBlk [.int .i64 0, .int .i64 0, .int .i64 0, .int .i64 0, .slice none 0 0] 39)
  rw [show w.alloc (.cells [.int .i64 0, .int .i64 0, .int .i64 0, .int .i64 0, .slice none 0 0].toArray 39) = w1 from hw1.symm] at HA1
  clear HA hw1
  have er : w1.heap[w.heap.size]? = some (.cells #[.int .i64 0, .int .i64 0, .int .i64 0, .int .i64 0, .slice none 0 0] 39 (0, 0)) := HA1.out.1.2.1
  have r0 : w1.cell? ⟨w.heap.size, 0, none⟩ = some (.int .i64 0) := by rw [cell_at er]; rfl
  have r1 : w1.cell? ⟨w.heap.size, 1, none⟩ = some (.int .i64 0) := by rw [cell_at er]; rfl
  have r2 : w1.cell? ⟨w.heap.size, 2, none⟩ = some (.int .i64 0) := by rw [cell_at er]; rfl
  have r3 : w1.cell? ⟨w.heap.size, 3, none⟩ = some (.int .i64 0) := by rw [cell_at er]; rfl
  have r4 : w1.cell? ⟨w.heap.size, 4, none⟩ = some (.slice none 0 0) := by rw [cell_at er]; rfl
  have fr0 := free_at er 0
  have fr1 := free_at er 1
  have fr2 := free_at er 2
  have fr3 := free_at er 3
  have fr4 := free_at er 4
  clear er
  go_wp2
  have A3 := ((((HA1.out.setBlk 0 (.int .i64 0)).setBlk 1 (.int .i64 0)).setBlk 2 (.int .i64 0)).setBlk 3 (.int .i64 0)).setBlk 4 (.slice none 0 0)
  refine bodyPost_ret (v := .tuple #[rowV 0 0 0 0 (.slice none 0 0), .bool false]) (res22 (b := w.heap.size) rfl rfl A3.1.2.1) rfl ?_
  exact ⟨rfl, A3.tail⟩

theorem new_any {cs : List Comp} {w : World} (h : All cs w) : Calls Try.prog 8 #[] w fun e w' => ∃ g, e = .returned (.pointer (some ⟨g, 0, none⟩)) ∧ All (rollL g (List.replicate 8 .zero) ++ cs) w' := by
  have HA := hid h
  clear h
  go_enter Try.func8, Try.ntmps8
  go_wp2
  go_ret
  refine ⟨_, rfl, ?_⟩
  have A0 : All ((List.replicate 8 Pl.zero).map Pl.part ++ cs) w := (((((((HA.out.addNil (e := 9)).addNil (e := 9)).addNil (e := 9)).addNil (e := 9)).addNil (e := 9)).addNil (e := 9)).addNil (e := 9)).addNil (e := 9)
  exact A0.addBlk (flatP (List.replicate 8 .zero)) 69

end Go.Proofs.Ytagdpfghooogfaa
