import Derived.Test.YtpfpamkbahgkpaaKeep
namespace Go.Proofs.Ytpfpamkbahgkpaa
open Go.RowKit
set_option linter.unusedVariables false

/-- append: in place, or into a new row while the old one stays. -/
theorem wpList_append_two {P : Program} (w : World) {ops : Array Oper} {rest : List Oper} {o : Oper} {a : Act} {Q : Exit → Act → World → Prop} (hgd : o.guard = none) (s x : Operand) (t : TypeId)
    (ho : o.op = .call { callee := .builtin .append, args := #[s, x], argTypes := #[t, t] })
    (e : TypeId) (i : TypeInfo) (z : Value) (size bytes : Nat) (ht : P.underlying t = some (.slice e)) (hi : P.info? e = some i) (hz : i.zero = some z)
    (hsize : i.size = size) (hby : i.bytes = bytes) (hzs : z.cells.size = size) (hsz : 0 < size)
    (v : Value) (n : Nat) (xs : List Value) (hs : a.eval s = v) (hown : w.ownsRow 0 e size v n xs)
    (ad : Addr) (m c : Nat) (news : List Value) (hx : a.eval x = .slice (some ad) m c) (hl : news.length = m * size) (hnews : ∀ j u, news[j]? = some u → w.cell? (ad.add j) = some u) (h1 : ∀ u ∈ news, u.oneCell' = true)
    (hm : 0 < m) (h63 : n + m ≤ maxLen) (hbytes : (n + m) * bytes ≤ 140737488355328)
    (h : ∀ g cap w', w'.ownsRow 0 e size (.slice (some ⟨g, 0, none⟩) (n + m) cap) (n + m) (xs ++ news) → w.grownBy w' v.ownBlock → (v.ownBlock = some g ∨ (g = w.heap.size ∧ Below w.heap.size w w')) → wpList P ops Q rest (a.put o.dst (.slice (some ⟨g, 0, none⟩) (n + m) cap)) w') : wpList P ops Q (o :: rest) a w := by
  refine wpList_plain hgd fun K hK => ?_
  obtain ⟨v', w', hr, h2, h3, h4, h5⟩ := run_append_own_at (P := P) w 0 t o.type e i z size bytes ht hi hz hsize hby hzs hsz v n xs hown ad m c news hl hnews h1 h63 hbytes (by omega)
  subst hsize
  subst hby
  have hkey : ∃ g cap, v' = .slice (some ⟨g, 0, none⟩) (n + m) cap ∧ (v.ownBlock = some g ∨ (g = w.heap.size ∧ Below w.heap.size w w')) := by
    rcases h2.2 with ⟨_, e0⟩ | ⟨g, cap, cur, e1, _⟩
    · omega
    · refine ⟨g, cap, e1, ?_⟩
      rcases hown.2 with ⟨rfl, rfl⟩ | ⟨g0, cap0, cur0, rfl, _, hg0, hn0, _, hcs0, htake0⟩
      · right
        have hr2 := run_append_nil (P := P) w t o.type e i z ht hi hz ad m c news hl hnews hm (by simp only [maxLen] at h63; omega) (by have hb := hbytes; simp only [Nat.zero_add] at hb; omega)
        rw [hr] at hr2
        simp only [Result.ok.injEq] at hr2
        obtain ⟨rfl, rfl⟩ := hr2
        simp only [Value.slice.injEq, Option.some.injEq, Addr.mk.injEq, and_true] at e1
        exact ⟨e1.1.symm, ((Below.refl _ _).drew).alloc (Nat.le_refl _) _⟩
      · by_cases hroom : n + m ≤ cap0
        · left
          rcases h5 with e5 | e5
          · rw [e1] at e5; exact e5.symm
          · exfalso
            obtain ⟨w2, hr2, _, _⟩ := run_append_fits (P := P) w 0 t o.type e i i.size ht hi rfl g0 n cap0 xs hown ad m c news hl hnews h1 hroom
            rw [hr] at hr2
            simp only [Result.ok.injEq] at hr2
            rw [hr2.1] at e5
            simp [Value.ownBlock] at e5
            have := (Array.getElem?_eq_some_iff.1 hg0).1
            omega
        · right
          have hr2 := run_append_grow (P := P) w t o.type e i z ht hi hz ⟨g0, 0, none⟩ n cap0 xs hown.1 (hown.cells (g := g0) rfl) ad m c news hl hnews (by omega) (by simp only [maxLen] at h63; omega) (growslice_fits (by omega) hbytes)
          rw [hr] at hr2
          simp only [Result.ok.injEq] at hr2
          obtain ⟨rfl, rfl⟩ := hr2
          simp only [Value.slice.injEq, Option.some.injEq, Addr.mk.injEq, and_true] at e1
          exact ⟨e1.1.symm, ((Below.refl _ _).drew).alloc (Nat.le_refl _) _⟩
  obtain ⟨g, cap, rfl, hk⟩ := hkey
  unfold Oper.wp execOp
  simp only [ho, resolve, invoke, builtin, Sem.run_bind, Sem.run_pure, Result.andThen_ok, List.map_toArray, List.map_cons, List.map_nil, hs, hx, hr]
  exact hK _ _ (h g cap w' h2 h3 hk)

/-- The byRs of entries that are one's own. -/
def byRs (es : List En) : List Comp := es.flatMap fun e => [byR e.a e.la, byR e.m e.lm]

theorem byRs_split (pre post : List En) (e : En) (cs : List Comp) : (byRs (pre ++ e :: post) ++ cs).Perm (byR e.a e.la :: byR e.m e.lm :: (byRs (pre ++ post) ++ cs)) := by
  have h1 : byRs (pre ++ e :: post) ++ cs = byRs pre ++ (byR e.a e.la :: byR e.m e.lm :: (byRs post ++ cs)) := by simp [byRs]
  have h2 : byRs (pre ++ post) ++ cs = byRs pre ++ (byRs post ++ cs) := by simp [byRs]
  rw [h1, h2]
  exact List.perm_middle.trans ((List.perm_middle (a := byR e.m e.lm)).cons _)

theorem All.byR_set {g n cap k : Nat} {l : List UInt8} {cs : List Comp} {w : World} (h : All (byR (.slice (some ⟨g, 0, none⟩) n cap) l :: cs) w) (x : UInt8) (hn : n = l.length) : All (byR (.slice (some ⟨g, 0, none⟩) n cap) (l.set k x) :: cs) (w.setCell ⟨g, k, none⟩ (.int .u8 (x.toNat : Int))) := by
  subst hn
  have ho : w.ownsRow 0 5 1 (.slice (some ⟨g, 0, none⟩) l.length cap) l.length (cellsB l) := h.1.2.1
  have hs := (World.ownsRow.stored ho k (.int .u8 (x.toNat : Int))).1
  have e : (cellsB l).set k (.int .u8 (x.toNat : Int)) = cellsB (l.set k x) := by simp [cellsB, List.map_set]
  refine h.turn (Fr.setCell w g k _) (byR_good _ _) ?_ (Gr.refl _ _) (fun k' hk' => ?_)
  · show World.ownsRow _ 0 5 1 _ (l.set k x).length _
    rw [List.length_set, ← e]; exact hs
  · have := h.1.2.2 k' hk'
    simpa [World.setCell] using this

end Go.Proofs.Ytpfpamkbahgkpaa
