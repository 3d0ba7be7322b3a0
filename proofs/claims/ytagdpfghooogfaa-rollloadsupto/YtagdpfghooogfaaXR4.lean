import Derived.Test.YtagdpfghooogfaaWeird
namespace Go.Proofs.Ytagdpfghooogfaa
open Go.RowKit
set_option linter.unusedVariables false

/-- Append in a region that draws its order, where nothing may be appended too. -/
theorem step_append_own {P : Program} {w : World} {ops : Array Oper} {o : Oper} {a : Act} {K : Act → World → Prop} {Q : Exit → Act → World → Prop} {E : Prop} (hgd : o.guard = none) (s x : Operand) (t : TypeId)
    (ho : o.op = .call { callee := .builtin .append, args := #[s, x], argTypes := #[t, t] })
    (base : Nat) (e : TypeId) (i : TypeInfo) (z : Value) (size bytes : Nat) (ht : P.underlying t = some (.slice e)) (hi : P.info? e = some i) (hz : i.zero = some z)
    (hsize : i.size = size) (hby : i.bytes = bytes) (hzs : z.cells.size = size) (hsz : 0 < size)
    (v : Value) (n : Nat) (xs : List Value) (hs : a.eval s = v) (hown : w.ownsRow base e size v n xs)
    (ad : Addr) (m c : Nat) (news : List Value) (hx : a.eval x = .slice (some ad) m c) (hl : news.length = m * size) (hnews : ∀ j u, news[j]? = some u → w.cell? (ad.add j) = some u) (h1 : ∀ u ∈ news, u.oneCell' = true)
    (h63 : n + m ≤ maxLen) (hbytes : (n + m) * bytes ≤ 140737488355328) (hbase : base ≤ w.heap.size)
    (h : ∀ ao cap w', w'.ownsRow base e size (.slice ao (n + m) cap) (n + m) (xs ++ news) → w.grownBy w' v.ownBlock → K (a.put o.dst (.slice ao (n + m) cap)) w') :
    if Region.wanted o (yielded ops a.tmps) = true then Oper.wp P o a w K Q else E := by
  have hw : Region.wanted o (yielded ops a.tmps) = true := by simp [Region.wanted, hgd]
  rw [if_pos hw]
  obtain ⟨v', w', hr, h2, h3, h4, h5⟩ := run_append_own_at (P := P) w base t o.type e i z size bytes ht hi hz hsize hby hzs hsz v n xs hown ad m c news hl hnews h1 h63 hbytes hbase
  obtain ⟨ao, cap, hv⟩ := owns_form h2
  subst hv
  unfold Oper.wp execOp
  simp only [ho, resolve, invoke, builtin, Sem.run_bind, Sem.run_pure, Result.andThen_ok, List.map_toArray, List.map_cons, List.map_nil, hs, hx, hr]
  exact h ao cap w' h2 h3

/-- A new reader's block. -/
theorem XRd.made {w0 w : World} {v : Value} {l : List UInt8} (hb : Below w0.heap.size w0 w) (ho : w.ownsRow w0.heap.size 5 1 v l.length (cellsB l)) :
    XRd (w.alloc (.cells #[v, .int .i64 0, .int .i64 0] 122)) w.heap.size v l l 0 0 ∧ Below w0.heap.size w0 (w.alloc (.cells #[v, .int .i64 0, .int .i64 0] 122)) ∧ w0.heap.size ≤ w.heap.size ∧ ∀ k, v.ownBlock = some k → w0.heap.size ≤ k := by
  refine ⟨⟨⟨heap_alloc_new _ _, owns_zero (World.ownsRow.alloc ho _), fun e => ?_, Nat.zero_le _⟩, by simp [rsX]⟩, hb.alloc hb.size _, hb.size, fun k hk => (World.ownsRow.lt ho k hk).1⟩
  have := (World.ownsRow.lt ho _ e).2
  omega

set_option maxHeartbeats 800000 in
set_option maxRecDepth 1000000 in
theorem xnewr_some {w : World} (ad : Addr) (c : Nat) (l : List UInt8) (hc : ∀ j u, (cellsB l)[j]? = some u → (w.alloc (.cells #[] 5)).cell? (ad.add j) = some u) (hlen : l.length ≤ 140737488355328) :
    Calls Try.prog 61 #[.slice (some ad) l.length c] w fun e w' => ∃ b v, e = .returned (.pointer (some ⟨b, 0, none⟩)) ∧ XRd w' b v l l 0 0 ∧ Below w.heap.size w w' ∧ w.heap.size ≤ b ∧ ∀ k, v.ownBlock = some k → w.heap.size ≤ k := by
  obtain ⟨i0, hi, hz0, hz1, hz2⟩ := info_parts Try.info5
  have h0 : (w.alloc (.cells #[] 5)).ownsRow w.heap.size 5 1 (.slice (some ⟨w.heap.size, 0, none⟩) 0 0) 0 [] := World.ownsRow_made w #[] 0 (Nat.le_refl _) (by unfold maxLen; omega) rfl
  go_enter Try.func61, Try.ntmps61
  go_wp2_with (at_builtin; refine wpList_append_own_at _ rfl (.tmp 3) (.tmp 4) 40 rfl w.heap.size 5 i0 (.int .u8 0) 1 1 Try.underlying40 hi hz0 hz1 hz2 rfl (by decide) _ _ _ rfl h0 ad l.length c (cellsB l) rfl (by rw [cellsB_length]; omega) hc (cellsB_one _) (by unfold maxLen; omega) (by omega) (by simp) ?_)
  intro v' w1 hown hgr hnil hat
  have hB : Below w.heap.size w w1 := by
    refine ((Below.refl _ _).alloc (Nat.le_refl _) _).grown hgr (by simp) (fun k hk => ?_)
    simp [Value.ownBlock] at hk
    omega
  have ho : w1.ownsRow w.heap.size 5 1 v' l.length (cellsB l) := by simpa using hown
  have R := hid (XRd.made hB ho)
  obtain ⟨ao', cap', eo⟩ := owns_form ho
  subst eo
  clear hown hgr hnil hat h0 hB ho hc
  go_wp2
  go_ret
  exact ⟨_, _, rfl, R.out⟩

set_option maxHeartbeats 800000 in
set_option maxRecDepth 1000000 in
theorem xnewr_none {w : World} :
    Calls Try.prog 61 #[.slice none 0 0] w fun e w' => ∃ b v, e = .returned (.pointer (some ⟨b, 0, none⟩)) ∧ XRd w' b v [] [] 0 0 ∧ Below w.heap.size w w' ∧ w.heap.size ≤ b ∧ ∀ k, v.ownBlock = some k → w.heap.size ≤ k := by
  obtain ⟨i0, hi, hz0, hz1, hz2⟩ := info_parts Try.info5
  have h0 : (w.alloc (.cells #[] 5)).ownsRow w.heap.size 5 1 (.slice (some ⟨w.heap.size, 0, none⟩) 0 0) 0 [] := World.ownsRow_made w #[] 0 (Nat.le_refl _) (by unfold maxLen; omega) rfl
  have R := hid (XRd.made (l := []) ((Below.refl _ _).alloc (Nat.le_refl _) (.cells #[] 5)) h0)
  go_enter Try.func61, Try.ntmps61
  go_wp2_with (at_builtin; refine wpList_append_own_none rfl (.tmp 3) (.tmp 4) 40 rfl w.heap.size 5 i0 1 Try.underlying40 hi _ _ _ rfl h0 rfl ?_)
  go_ret
  have r := R.out
  rw [World.size_alloc] at r
  exact ⟨_, _, rfl, r⟩

theorem xnewr_any {w : World} {s : Value} {l : List UInt8} (h : ReadsW w s l) (hlen : l.length ≤ 140737488355328) :
    Calls Try.prog 61 #[s] w fun e w' => ∃ b v, e = .returned (.pointer (some ⟨b, 0, none⟩)) ∧ XRd w' b v l l 0 0 ∧ Below w.heap.size w w' ∧ w.heap.size ≤ b ∧ ∀ k, v.ownBlock = some k → w.heap.size ≤ k := by
  rcases h with ⟨ao, c, rfl, _, ⟨rfl, rfl, rfl⟩ | ⟨g, o, rfl, hg, hc⟩⟩ | ⟨rfl, a, c, rfl⟩
  · exact xnewr_none
  · refine xnewr_some ⟨g, o, none⟩ c l (fun j u hu => ?_) hlen
    rw [Addr.add_lit, World.cell?_alloc_past _ _ _ hg]
    exact hc j u hu
  · exact xnewr_some a c [] (fun j u hu => by simp [cellsB] at hu) hlen

end Go.Proofs.Ytagdpfghooogfaa
