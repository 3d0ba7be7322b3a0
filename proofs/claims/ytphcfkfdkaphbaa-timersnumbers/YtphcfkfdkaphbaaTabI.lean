import Derived.Test.YtphcfkfdkaphbaaMapL
import Derived.Test.YtphcfkfdkaphbaaBackoff
namespace Go.Proofs.Ytphcfkfdkaphbaa
open Go.RowKit
open Go.Maps (Keyed)
set_option linter.unusedVariables false

/-- What an element reads as. -/
noncomputable abbrev rE : Value → Option (DataW Unit × List MemPlace) := plainElem Try.prog 3
theorem zero3 (w : World) : (zeroValue 3).run Try.prog w = .ok (.int .i64 0) w := by kernel_rfl
theorem lawI : Keyed Try.prog 3 := Maps.int_keyed Try.underlying3

/-- What a name is left. -/
def leftD (D : DataW Unit) (kl : Lit) : Int := match D.atKey kl (.lit (.int .i64 0)) with
  | .lit (.int _ n) => n
  | _ => 0

/-- A table's memory: its block, the map. -/
def tabI (P b n : Nat) (D : DataW Unit) : Comp := ⟨fun w => w.heap[P]? = some (.cells #[.map (some b)] 104 (0, 0)) ∧ w.ownsMap Try.prog 3 rE b n D, [P, b]⟩
theorem tabI_good (P b n : Nat) (D : DataW Unit) : (tabI P b n D).Good := by
  rintro w w' ⟨h1, es, clock, hb, r⟩ hl hk
  exact ⟨(hk P (by simp [tabI])).trans h1, es, clock, (hk b (by simp [tabI])).trans hb, r⟩

theorem tabI_lt {P b n : Nat} {D : DataW Unit} {cs : List Comp} {w : World} (h : All (tabI P b n D :: cs) w) : P < w.heap.size ∧ b < w.heap.size ∧ P ≠ b := by
  refine ⟨h.1.2.2 P (by simp [tabI]), h.1.2.2 b (by simp [tabI]), fun e => ?_⟩
  obtain ⟨h1, es, clock, hb, _⟩ := h.1.2.1
  rw [e, hb] at h1
  cases h1

/-- The map has turned. -/
theorem All.tabI_turn {P b n n' : Nat} {D D' : DataW Unit} {cs : List Comp} {w w' : World} (h : All (tabI P b n D :: cs) w) (hg : w.grownBy w' (some b)) (ho : w'.ownsMap Try.prog 3 rE b n' D') : All (tabI P b n' D' :: cs) w' := by
  obtain ⟨h1, h2, h3⟩ := tabI_lt h
  have hc : w.heap[P]? = some (.cells #[.map (some b)] 104 (0, 0)) := h.1.2.1.1
  refine h.turn ((grown_fr hg).mono (fun k hk => by simp at hk; simp [tabI, hk])) (tabI_good _ _ _ _) ⟨(hg.block P h1 (by simp; exact h3)).trans hc, ho⟩ (fun k hk => Or.inl (by simpa [tabI] using hk)) (fun k hk => ?_)
  have hk' : k = P ∨ k = b := by simpa [tabI] using hk
  rcases hk' with rfl | rfl
  · exact Nat.lt_of_lt_of_le h1 hg.size
  · exact Nat.lt_of_lt_of_le h2 hg.size

theorem Try.und102 : Try.prog.underlying 102 = some (.map 3 3) := by kernel_rfl

set_option maxRecDepth 1000000 in
theorem NewI {cs : List Comp} {w : World} (h : All cs w) : Calls Try.prog 14 #[] w fun e w' => ∃ P b, e = .returned (.pointer (some ⟨P, 0, none⟩)) ∧ All (tabI P b 0 (.map []) :: cs) w' := by
  have hmm := @run_makeMap Try.prog
  have H := hid (show All (tabI (w.heap.size + 1) w.heap.size 0 (.map []) :: cs) ((w.alloc (.map #[] 0)).alloc (.cells #[.map (some w.heap.size)] 104)) from by
    have hb : Below w.heap.size w ((w.alloc (.map #[] 0)).alloc (.cells #[.map (some w.heap.size)] 104)) := ((Below.refl _ _).alloc (Nat.le_refl _) _).alloc (by simp) _
    refine h.add (Fr.below hb) (tabI_good _ _ _ _) ⟨?_, ?_⟩ (fun k hk => ?_)
    · have := heap_alloc_new (w.alloc (.map #[] 0)) (.cells #[.map (some w.heap.size)] 104)
      simpa using this
    · exact (World.ownsMap_made w Try.prog 3 rE).alloc _
    · have hk' : k = w.heap.size + 1 ∨ k = w.heap.size := by simpa [tabI] using hk
      rcases hk' with rfl | rfl
      · exact ⟨by omega, by simp⟩
      · exact ⟨by omega, by simp; omega⟩)
  clear h
  go_enter Try.func14, Try.ntmps14
  go_wp2
  go_ret
  exact ⟨_, _, rfl, H.out⟩

theorem leftD_of {D : DataW Unit} {kl : Lit} {v : Value} {ps : List MemPlace} (h : rE v = some (D.atKey kl (.lit (.int .i64 0)), ps)) : v = .int .i64 (leftD D kl) := by
  obtain ⟨a, rfl, e, _⟩ := plainElem_int_inv Try.underlying3 h
  simp only [Prod.mk.injEq] at e
  unfold leftD
  rw [e.1]

/-- 'v, ok := m[k]'. -/
theorem lookI {w : World} {b n : Nat} {D : DataW Unit} (h : w.ownsMap Try.prog 3 rE b n D) {key : Value} {kl : Lit} (hkey : keyOf Try.prog 3 key = some kl) : (Instr.lookup 102 (.map (some b)) key true).run Try.prog w = .ok (.tuple #[.int .i64 (leftD D kl), .bool (Maps.has D kl)]) w := by
  obtain ⟨v, ps, h1, h2⟩ := h.look_ok lawI Try.und102 (zero3 w) (zd := .lit (.int .i64 0)) (zp := []) (plainElem_int Try.underlying3 (by decide)) hkey
  rw [h1, leftD_of h2]

set_option maxRecDepth 1000000 in
theorem runsI {P b n : Nat} {D : DataW Unit} {cs : List Comp} {w : World} (h : All (tabI P b n D :: cs) w) (s : Int) (hs : (Lit.int .i64 s).wf = true) : Calls Try.prog 51 #[.pointer (some ⟨P, 0, none⟩), .int .i64 s] w fun e w' => e = .returned (.bool (Maps.has D (.int .i64 s))) ∧ w' = w := by
  have hb : w.heap[P]? = some (.cells #[.map (some b)] 104 (0, 0)) := h.1.2.1.1
  have c0 : w.cell? ⟨P, 0, none⟩ = some (.map (some b)) := by rw [cell_at hb]; rfl
  have hl := lookI h.1.2.1.2 (Maps.keyOf_int_mk Try.underlying3 hs)
  generalize Maps.has D _ = hh at *
  generalize leftD D _ = ll at *
  clear h hb
  go_enter Try.func51, Try.ntmps51
  go_wp2
  go_ret
  exact ⟨rfl, rfl⟩

set_option maxRecDepth 1000000 in
theorem CancelI {P b n : Nat} {D : DataW Unit} {cs : List Comp} {w : World} (h : All (tabI P b n D :: cs) w) (s : Int) (hs : (Lit.int .i64 s).wf = true) : Calls Try.prog 16 #[.pointer (some ⟨P, 0, none⟩), .int .i64 s] w fun e w' => e = .returned (.bool (Maps.has D (.int .i64 s))) ∧ All (tabI P b n (D.del (.int .i64 s)) :: cs) w' := by
  have hb : w.heap[P]? = some (.cells #[.map (some b)] 104 (0, 0)) := h.1.2.1.1
  have c0 : w.cell? ⟨P, 0, none⟩ = some (.map (some b)) := by rw [cell_at hb]; rfl
  have hkey := Maps.keyOf_int_mk Try.underlying3 hs
  have HR := hid (runsI h s hs)
  have H := hid h
  have HO := h.1.2.1.2
  clear hb h
  go_enter Try.func16, Try.ntmps16
  go_wp2_with fail
  refine HR.out.mono ?_
  rintro e w1 ⟨rfl, rfl⟩
  go_wp2_with (at_delete; refine wpList_delete_own _ rfl _ _ 102 3 rfl 3 lawI Try.und102 _ b n D rfl HO _ _ rfl hkey ?_; intro w2 ho2 ht2)
  have H2 := hid (H.out.tabI_turn ht2.grown ho2)
  clear ho2 ht2 H HO HR
  go_wp2
  go_ret
  exact ⟨rfl, H2.out⟩

theorem isNameI {w : World} (s : Int) : Calls Try.prog 53 #[.int .i64 s] w fun e w' => e = .returned (.bool true) ∧ w' = w := by
  go_enter Try.func53, Try.ntmps53
  go_wp2
  go_ret
  exact ⟨rfl, rfl⟩

set_option maxRecDepth 1000000 in
theorem ArmI_ticks {P b n : Nat} {D : DataW Unit} {cs : List Comp} {w : World} (h : All (tabI P b n D :: cs) w) (s : Int) {m : Int} (hm : m < 1 ∨ 1024 < m) : Calls Try.prog 18 #[.pointer (some ⟨P, 0, none⟩), .int .i64 s, .int .i64 m] w fun e w' => e = .returned (.int .i64 30) ∧ w' = w := by
  clear h
  go_enter Try.func18, Try.ntmps18
  go_wp2_with fail
  refine (isNameI s).mono ?_
  rintro e w1 ⟨rfl, rfl⟩
  go_wp2_with fail
  refine (mayWait_no hm).mono ?_
  rintro e w1 ⟨rfl, rfl⟩
  go_wp2
  go_ret
  exact ⟨rfl, rfl⟩

set_option maxRecDepth 1000000 in
theorem ArmI_full {P b n : Nat} {D : DataW Unit} {cs : List Comp} {w : World} (h : All (tabI P b n D :: cs) w) (s : Int) (hs : (Lit.int .i64 s).wf = true) {m : Int} (h1 : 1 ≤ m) (h2 : m ≤ 1024) (hh : Maps.has D (.int .i64 s) = false) (hz : 32 ≤ Maps.size D) (hz2 : Maps.size D ≤ 1048576) : Calls Try.prog 18 #[.pointer (some ⟨P, 0, none⟩), .int .i64 s, .int .i64 m] w fun e w' => e = .returned (.int .i64 31) ∧ w' = w := by
  have hb : w.heap[P]? = some (.cells #[.map (some b)] 104 (0, 0)) := h.1.2.1.1
  have c0 : w.cell? ⟨P, 0, none⟩ = some (.map (some b)) := by rw [cell_at hb]; rfl
  have hlen := h.1.2.1.2.len Try.und102
  have HR := hid (runsI h s hs)
  rw [hh] at HR
  generalize Maps.size D = sz at *
  clear h hb hh
  go_enter Try.func18, Try.ntmps18
  go_wp2_with fail
  refine (isNameI s).mono ?_
  rintro e w1 ⟨rfl, rfl⟩
  go_wp2_with fail
  refine (mayWait_yes h1 h2).mono ?_
  rintro e w1 ⟨rfl, rfl⟩
  go_wp2_with fail
  refine HR.out.mono ?_
  rintro e w1 ⟨rfl, rfl⟩
  go_wp2
  go_ret
  exact ⟨rfl, rfl⟩

set_option maxRecDepth 1000000 in
theorem ArmI_ok {P b n : Nat} {D : DataW Unit} {cs : List Comp} {w : World} (h : All (tabI P b n D :: cs) w) (s : Int) (hs : (Lit.int .i64 s).wf = true) {m : Int} (h1 : 1 ≤ m) (h2 : m ≤ 1024) (hn : n < 1048576) (hh : Maps.has D (.int .i64 s) = true ∨ Maps.size D < 32) : Calls Try.prog 18 #[.pointer (some ⟨P, 0, none⟩), .int .i64 s, .int .i64 m] w fun e w' => e = .returned (.int .i64 0) ∧ All (tabI P b (n + 1) (D.put (.int .i64 s) (.lit (.int .i64 m))) :: cs) w' := by
  have hb : w.heap[P]? = some (.cells #[.map (some b)] 104 (0, 0)) := h.1.2.1.1
  have c0 : w.cell? ⟨P, 0, none⟩ = some (.map (some b)) := by rw [cell_at hb]; rfl
  have hlen := h.1.2.1.2.len Try.und102
  have hkey := Maps.keyOf_int_mk Try.underlying3 hs
  have HR := hid (runsI h s hs)
  have HO := h.1.2.1.2
  have hsz := HO.size_le
  have hwf : (Lit.int .i64 m).wf = true := WalkArith.wf_i64 (by omega)
  have H := hid h
  clear h hb
  cases hc : Maps.has D (.int .i64 s) with
  | true =>
    rw [hc] at HR
    clear hh hc
    go_enter Try.func18, Try.ntmps18
    go_wp2_with fail
    refine (isNameI s).mono ?_
    rintro e w1 ⟨rfl, rfl⟩
    go_wp2_with fail
    refine (mayWait_yes h1 h2).mono ?_
    rintro e w1 ⟨rfl, rfl⟩
    go_wp2_with fail
    refine HR.out.mono ?_
    rintro e w1 ⟨rfl, rfl⟩
    go_wp2_with (at_mapUpdate; refine wpList_mapUpdate_own _ rfl _ _ _ 102 rfl 3 3 lawI Try.und102 _ b n _ rfl HO (by unfold maxLen; omega) _ _ _ rfl rfl hkey _ [] (plainElem_int Try.underlying3 hwf) ?_; intro w2 ho2 hg2)
    have H2 := hid (H.out.tabI_turn hg2 ho2)
    clear ho2 hg2 H HO HR
    go_wp2
    go_ret
    exact ⟨rfl, H2.out⟩
  | false =>
    rw [hc] at HR
    have hlt : ¬ 32 ≤ Maps.size D := by rcases hh with e | e; · rw [hc] at e; cases e
                                        · omega
    have hltI : (Maps.size D : Int) < 32 := by omega
    clear hh hc
    go_enter Try.func18, Try.ntmps18
    go_wp2_with fail
    refine (isNameI s).mono ?_
    rintro e w1 ⟨rfl, rfl⟩
    go_wp2_with fail
    refine (mayWait_yes h1 h2).mono ?_
    rintro e w1 ⟨rfl, rfl⟩
    go_wp2_with fail
    refine HR.out.mono ?_
    rintro e w1 ⟨rfl, rfl⟩
    go_wp2_with (at_mapUpdate; refine wpList_mapUpdate_own _ rfl _ _ _ 102 rfl 3 3 lawI Try.und102 _ b n _ rfl HO (by unfold maxLen; omega) _ _ _ rfl rfl hkey _ [] (plainElem_int Try.underlying3 hwf) ?_; intro w2 ho2 hg2)
    have H2 := hid (H.out.tabI_turn hg2 ho2)
    clear ho2 hg2 H HO HR
    go_wp2
    go_ret
    exact ⟨rfl, H2.out⟩
end Go.Proofs.Ytphcfkfdkaphbaa
