import Derived.Test.YtphcfkfdkaphbaaMapL
import Derived.Test.YtphcfkfdkaphbaaBackoff
namespace Go.Proofs.Ytphcfkfdkaphbaa
open Go.RowKit
open Go.Maps (Keyed)
set_option linter.unusedVariables false

/-- What an element reads as. -/
noncomputable abbrev rE : Value → Option (DataW Unit × List MemPlace) := plainElem Try.prog 3
theorem zero3 (w : World) : (zeroValue 3).run Try.prog w = .ok (.int .i64 0) w := by kernel_rfl
theorem lawS : Keyed Try.prog 9 := Maps.string_keyed Try.underlying9

/-- What a name is left. -/
def leftD (D : DataW Unit) (kl : Lit) : Int := match D.atKey kl (.lit (.int .i64 0)) with
  | .lit (.int _ n) => n
  | _ => 0

/-- A table's memory: its block, the map. -/
def tabS (P b n : Nat) (D : DataW Unit) : Comp := ⟨fun w => w.heap[P]? = some (.cells #[.map (some b)] 92 (0, 0)) ∧ w.ownsMap Try.prog 9 rE b n D, [P, b]⟩
theorem tabS_good (P b n : Nat) (D : DataW Unit) : (tabS P b n D).Good := by
  rintro w w' ⟨h1, es, clock, hb, r⟩ hl hk
  exact ⟨(hk P (by simp [tabS])).trans h1, es, clock, (hk b (by simp [tabS])).trans hb, r⟩

theorem tabS_lt {P b n : Nat} {D : DataW Unit} {cs : List Comp} {w : World} (h : All (tabS P b n D :: cs) w) : P < w.heap.size ∧ b < w.heap.size ∧ P ≠ b := by
  refine ⟨h.1.2.2 P (by simp [tabS]), h.1.2.2 b (by simp [tabS]), fun e => ?_⟩
  obtain ⟨h1, es, clock, hb, _⟩ := h.1.2.1
  rw [e, hb] at h1
  cases h1

/-- The map has turned. -/
theorem All.tabS_turn {P b n n' : Nat} {D D' : DataW Unit} {cs : List Comp} {w w' : World} (h : All (tabS P b n D :: cs) w) (hg : w.grownBy w' (some b)) (ho : w'.ownsMap Try.prog 9 rE b n' D') : All (tabS P b n' D' :: cs) w' := by
  obtain ⟨h1, h2, h3⟩ := tabS_lt h
  have hc : w.heap[P]? = some (.cells #[.map (some b)] 92 (0, 0)) := h.1.2.1.1
  refine h.turn ((grown_fr hg).mono (fun k hk => by simp at hk; simp [tabS, hk])) (tabS_good _ _ _ _) ⟨(hg.block P h1 (by simp; exact h3)).trans hc, ho⟩ (fun k hk => Or.inl (by simpa [tabS] using hk)) (fun k hk => ?_)
  have hk' : k = P ∨ k = b := by simpa [tabS] using hk
  rcases hk' with rfl | rfl
  · exact Nat.lt_of_lt_of_le h1 hg.size
  · exact Nat.lt_of_lt_of_le h2 hg.size

theorem Try.und90 : Try.prog.underlying 90 = some (.map 9 3) := by kernel_rfl

set_option maxRecDepth 1000000 in
theorem NewS {cs : List Comp} {w : World} (h : All cs w) : Calls Try.prog 9 #[] w fun e w' => ∃ P b, e = .returned (.pointer (some ⟨P, 0, none⟩)) ∧ All (tabS P b 0 (.map []) :: cs) w' := by
  have hmm := @run_makeMap Try.prog
  have H := hid (show All (tabS (w.heap.size + 1) w.heap.size 0 (.map []) :: cs) ((w.alloc (.map #[] 0)).alloc (.cells #[.map (some w.heap.size)] 92)) from by
    have hb : Below w.heap.size w ((w.alloc (.map #[] 0)).alloc (.cells #[.map (some w.heap.size)] 92)) := ((Below.refl _ _).alloc (Nat.le_refl _) _).alloc (by simp) _
    refine h.add (Fr.below hb) (tabS_good _ _ _ _) ⟨?_, ?_⟩ (fun k hk => ?_)
    · have := heap_alloc_new (w.alloc (.map #[] 0)) (.cells #[.map (some w.heap.size)] 92)
      simpa using this
    · exact (World.ownsMap_made w Try.prog 9 rE).alloc _
    · have hk' : k = w.heap.size + 1 ∨ k = w.heap.size := by simpa [tabS] using hk
      rcases hk' with rfl | rfl
      · exact ⟨by omega, by simp⟩
      · exact ⟨by omega, by simp; omega⟩)
  clear h
  go_enter Try.func9, Try.ntmps9
  go_wp2
  go_ret
  exact ⟨_, _, rfl, H.out⟩

theorem leftD_of {D : DataW Unit} {kl : Lit} {v : Value} {ps : List MemPlace} (h : rE v = some (D.atKey kl (.lit (.int .i64 0)), ps)) : v = .int .i64 (leftD D kl) := by
  obtain ⟨a, rfl, e, _⟩ := plainElem_int_inv Try.underlying3 h
  simp only [Prod.mk.injEq] at e
  unfold leftD
  rw [e.1]

/-- 'v, ok := m[k]'. -/
theorem lookS {w : World} {b n : Nat} {D : DataW Unit} (h : w.ownsMap Try.prog 9 rE b n D) {key : Value} {kl : Lit} (hkey : keyOf Try.prog 9 key = some kl) : (Instr.lookup 90 (.map (some b)) key true).run Try.prog w = .ok (.tuple #[.int .i64 (leftD D kl), .bool (Maps.has D kl)]) w := by
  obtain ⟨v, ps, h1, h2⟩ := h.look_ok lawS Try.und90 (zero3 w) (zd := .lit (.int .i64 0)) (zp := []) (plainElem_int Try.underlying3 (by decide)) hkey
  rw [h1, leftD_of h2]

set_option maxRecDepth 1000000 in
theorem runsS {P b n : Nat} {D : DataW Unit} {cs : List Comp} {w : World} (h : All (tabS P b n D :: cs) w) (s : ByteArray) (hs : s.size ≤ maxLen) : Calls Try.prog 41 #[.pointer (some ⟨P, 0, none⟩), .string s] w fun e w' => e = .returned (.bool (Maps.has D (.string s.data.toList))) ∧ w' = w := by
  have hb : w.heap[P]? = some (.cells #[.map (some b)] 92 (0, 0)) := h.1.2.1.1
  have c0 : w.cell? ⟨P, 0, none⟩ = some (.map (some b)) := by rw [cell_at hb]; rfl
  have hl := lookS h.1.2.1.2 (WideMaps.keyOf_string_mk Try.underlying9 hs)
  generalize Maps.has D _ = hh at *
  generalize leftD D _ = ll at *
  clear h hb
  go_enter Try.func41, Try.ntmps41
  go_wp2
  go_ret
  exact ⟨rfl, rfl⟩

set_option maxRecDepth 1000000 in
theorem LeftS {P b n : Nat} {D : DataW Unit} {cs : List Comp} {w : World} (h : All (tabS P b n D :: cs) w) (s : ByteArray) (hs : s.size ≤ maxLen) : Calls Try.prog 24 #[.pointer (some ⟨P, 0, none⟩), .string s] w fun e w' => e = .returned (.tuple #[.int .i64 (leftD D (.string s.data.toList)), .bool (Maps.has D (.string s.data.toList))]) ∧ w' = w := by
  have hb : w.heap[P]? = some (.cells #[.map (some b)] 92 (0, 0)) := h.1.2.1.1
  have c0 : w.cell? ⟨P, 0, none⟩ = some (.map (some b)) := by rw [cell_at hb]; rfl
  have hl := lookS h.1.2.1.2 (WideMaps.keyOf_string_mk Try.underlying9 hs)
  generalize Maps.has D _ = hh at *
  generalize leftD D _ = ll at *
  clear h hb
  go_enter Try.func24, Try.ntmps24
  go_wp2
  go_ret2
  exact ⟨rfl, rfl⟩

set_option maxRecDepth 1000000 in
theorem CancelS {P b n : Nat} {D : DataW Unit} {cs : List Comp} {w : World} (h : All (tabS P b n D :: cs) w) (s : ByteArray) (hs : s.size ≤ maxLen) : Calls Try.prog 23 #[.pointer (some ⟨P, 0, none⟩), .string s] w fun e w' => e = .returned (.bool (Maps.has D (.string s.data.toList))) ∧ All (tabS P b n (D.del (.string s.data.toList)) :: cs) w' := by
  have hb : w.heap[P]? = some (.cells #[.map (some b)] 92 (0, 0)) := h.1.2.1.1
  have c0 : w.cell? ⟨P, 0, none⟩ = some (.map (some b)) := by rw [cell_at hb]; rfl
  have hkey := WideMaps.keyOf_string_mk Try.underlying9 hs
  have HR := hid (runsS h s hs)
  have H := hid h
  have HO := h.1.2.1.2
  clear hb h
  go_enter Try.func23, Try.ntmps23
  go_wp2_with fail
  refine HR.out.mono ?_
  rintro e w1 ⟨rfl, rfl⟩
  go_wp2_with (at_delete; refine wpList_delete_own _ rfl _ _ 90 9 rfl 3 lawS Try.und90 _ b n D rfl HO _ _ rfl hkey ?_; intro w2 ho2 ht2)
  have H2 := hid (H.out.tabS_turn ht2.grown ho2)
  clear ho2 ht2 H HO HR
  go_wp2
  go_ret
  exact ⟨rfl, H2.out⟩

theorem isNameS {w : World} (s : ByteArray) : Calls Try.prog 39 #[.string s] w fun e w' => e = .returned (.bool true) ∧ w' = w := by
  go_enter Try.func39, Try.ntmps39
  go_wp2
  go_ret
  exact ⟨rfl, rfl⟩

set_option maxRecDepth 1000000 in
theorem ArmS_ticks {P b n : Nat} {D : DataW Unit} {cs : List Comp} {w : World} (h : All (tabS P b n D :: cs) w) (s : ByteArray) {m : Int} (hm : m < 1 ∨ 1024 < m) : Calls Try.prog 10 #[.pointer (some ⟨P, 0, none⟩), .string s, .int .i64 m] w fun e w' => e = .returned (.int .i64 30) ∧ w' = w := by
  clear h
  go_enter Try.func10, Try.ntmps10
  go_wp2_with fail
  refine (isNameS s).mono ?_
  rintro e w1 ⟨rfl, rfl⟩
  go_wp2_with fail
  refine (mayWait_no hm).mono ?_
  rintro e w1 ⟨rfl, rfl⟩
  go_wp2
  go_ret
  exact ⟨rfl, rfl⟩

set_option maxRecDepth 1000000 in
theorem ArmS_full {P b n : Nat} {D : DataW Unit} {cs : List Comp} {w : World} (h : All (tabS P b n D :: cs) w) (s : ByteArray) (hs : s.size ≤ maxLen) {m : Int} (h1 : 1 ≤ m) (h2 : m ≤ 1024) (hh : Maps.has D (.string s.data.toList) = false) (hz : 32 ≤ Maps.size D) (hz2 : Maps.size D ≤ 1048576) : Calls Try.prog 10 #[.pointer (some ⟨P, 0, none⟩), .string s, .int .i64 m] w fun e w' => e = .returned (.int .i64 31) ∧ w' = w := by
  have hb : w.heap[P]? = some (.cells #[.map (some b)] 92 (0, 0)) := h.1.2.1.1
  have c0 : w.cell? ⟨P, 0, none⟩ = some (.map (some b)) := by rw [cell_at hb]; rfl
  have hlen := h.1.2.1.2.len Try.und90
  have HR := hid (runsS h s hs)
  rw [hh] at HR
  generalize Maps.size D = sz at *
  clear h hb hh
  go_enter Try.func10, Try.ntmps10
  go_wp2_with fail
  refine (isNameS s).mono ?_
  rintro e w1 ⟨rfl, rfl⟩
  go_wp2_with fail
  refine (mayWait_yes h1 h2).mono ?_
  rintro e w1 ⟨rfl, rfl⟩
  go_wp2_with fail
  refine HR.out.mono ?_
  rintro e w1 ⟨rfl, rfl⟩
  go_wp2
  go_ret
  exact ⟨rfl, rfl⟩

set_option maxRecDepth 1000000 in
theorem ArmS_ok {P b n : Nat} {D : DataW Unit} {cs : List Comp} {w : World} (h : All (tabS P b n D :: cs) w) (s : ByteArray) (hs : s.size ≤ maxLen) {m : Int} (h1 : 1 ≤ m) (h2 : m ≤ 1024) (hn : n < 1048576) (hh : Maps.has D (.string s.data.toList) = true ∨ Maps.size D < 32) : Calls Try.prog 10 #[.pointer (some ⟨P, 0, none⟩), .string s, .int .i64 m] w fun e w' => e = .returned (.int .i64 0) ∧ All (tabS P b (n + 1) (D.put (.string s.data.toList) (.lit (.int .i64 m))) :: cs) w' := by
  have hb : w.heap[P]? = some (.cells #[.map (some b)] 92 (0, 0)) := h.1.2.1.1
  have c0 : w.cell? ⟨P, 0, none⟩ = some (.map (some b)) := by rw [cell_at hb]; rfl
  have hlen := h.1.2.1.2.len Try.und90
  have hkey := WideMaps.keyOf_string_mk Try.underlying9 hs
  have HR := hid (runsS h s hs)
  have HO := h.1.2.1.2
  have hsz := HO.size_le
  have hwf : (Lit.int .i64 m).wf = true := WalkArith.wf_i64 (by omega)
  have H := hid h
  clear h hb
  cases hc : Maps.has D (.string s.data.toList) with
  | true =>
    rw [hc] at HR
    clear hh hc
    go_enter Try.func10, Try.ntmps10
    go_wp2_with fail
    refine (isNameS s).mono ?_
    rintro e w1 ⟨rfl, rfl⟩
    go_wp2_with fail
    refine (mayWait_yes h1 h2).mono ?_
    rintro e w1 ⟨rfl, rfl⟩
    go_wp2_with fail
    refine HR.out.mono ?_
    rintro e w1 ⟨rfl, rfl⟩
    go_wp2_with (at_mapUpdate; refine wpList_mapUpdate_own _ rfl _ _ _ 90 rfl 9 3 lawS Try.und90 _ b n _ rfl HO (by unfold maxLen; omega) _ _ _ rfl rfl hkey _ [] (plainElem_int Try.underlying3 hwf) ?_; intro w2 ho2 hg2)
    have H2 := hid (H.out.tabS_turn hg2 ho2)
    clear ho2 hg2 H HO HR
    go_wp2
    go_ret
    exact ⟨rfl, H2.out⟩
  | false =>
    rw [hc] at HR
    have hlt : ¬ 32 ≤ Maps.size D := by rcases hh with e | e; · rw [hc] at e; cases e
                                        · omega
    have hltI : (Maps.size D : Int) < 32 := by omega
    clear hh hc
    go_enter Try.func10, Try.ntmps10
    go_wp2_with fail
    refine (isNameS s).mono ?_
    rintro e w1 ⟨rfl, rfl⟩
    go_wp2_with fail
    refine (mayWait_yes h1 h2).mono ?_
    rintro e w1 ⟨rfl, rfl⟩
    go_wp2_with fail
    refine HR.out.mono ?_
    rintro e w1 ⟨rfl, rfl⟩
    go_wp2_with (at_mapUpdate; refine wpList_mapUpdate_own _ rfl _ _ _ 90 rfl 9 3 lawS Try.und90 _ b n _ rfl HO (by unfold maxLen; omega) _ _ _ rfl rfl hkey _ [] (plainElem_int Try.underlying3 hwf) ?_; intro w2 ho2 hg2)
    have H2 := hid (H.out.tabS_turn hg2 ho2)
    clear ho2 hg2 H HO HR
    go_wp2
    go_ret
    exact ⟨rfl, H2.out⟩
end Go.Proofs.Ytphcfkfdkaphbaa
