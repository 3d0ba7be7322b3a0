import Derived.Test.YtmpbdncgilahkaaStep3
import Derived.Test.YtmpbdncgilahkaaLast
import Derived.RangeFuncNested
namespace Go.Proofs.Ytmpbdncgilahkaa
open Go.RowKit
set_option linter.unusedVariables false

def ptC (a b : Nat) (wi : List (Option Int)) (wt : List (Option ByteArray)) (f : Rfs) : Comp := ⟨fun W => Pt W a b wi wt f, blk5 a b f⟩
def rfC (g : Rfs) : Comp := ⟨fun W => Rf W g, [g.r, g.s, g.p]⟩
/-- What was there, but for some blocks. -/
def oldC (w : World) (F : List Nat) : Comp := ⟨fun W => Fr F w W, (List.range w.heap.size).filter fun k => decide (k ∉ F)⟩

theorem ptC_good (a b : Nat) (wi : List (Option Int)) (wt : List (Option ByteArray)) (f : Rfs) : (ptC a b wi wt f).Good := fun w w' h _ hb => Pt.keep h hb
theorem rfC_good (g : Rfs) : (rfC g).Good := fun w w' h _ hb => Rf.keep h (hb _ (by simp [rfC])) (hb _ (by simp [rfC])) (hb _ (by simp [rfC]))
theorem oldC_good (w : World) (F : List Nat) : (oldC w F).Good := by
  intro x y h hs hb
  have h' : Fr F w x := h
  exact ⟨hs.os.trans h'.os, hs.tape.trans h'.tape, hs.output.trans h'.output, Nat.le_trans h'.size hs.size, fun k hk hF => (hb k (by simp [oldC, hk, hF])).trans (h'.block k hk hF)⟩

theorem mem_at {l : List Comp} {c : Comp} (i : Nat) (h : l[i]? = some c) : c ∈ l := List.mem_of_getElem? h
theorem All.cellAt {cs : List Comp} {W : World} {g j : Nat} {vs : List Value} {t : TypeId} {u : Value} (h : All cs W) (hm : blkC g vs t ∈ cs) (hu : vs[j]? = some u) : W.cell? ⟨g, j, none⟩ = some u := by
  rw [cell_at (h.blk hm), List.getElem?_toArray, hu]
theorem All.freeAt {cs : List Comp} {W : World} {g : Nat} {vs : List Value} {t : TypeId} (h : All cs W) (hm : blkC g vs t ∈ cs) (j : Nat) : W.frozen? ⟨g, j, none⟩ = false := free_at (h.blk hm) j
theorem All.ptAt {cs : List Comp} {W : World} {a b : Nat} {wi : List (Option Int)} {wt : List (Option ByteArray)} {f : Rfs} (h : All cs W) (hm : ptC a b wi wt f ∈ cs) : Pt W a b wi wt f := (h.mem hm).2.1
theorem All.rfAt {cs : List Comp} {W : World} {g : Rfs} (h : All cs W) (hm : rfC g ∈ cs) : Rf W g := (h.mem hm).2.1
theorem All.oldAt {cs : List Comp} {w W : World} {F : List Nat} (h : All cs W) (hm : oldC w F ∈ cs) : Fr F w W := (h.mem hm).2.1
theorem All.setIn {xs ys : List Comp} {g : Nat} {vs : List Value} {t : TypeId} {W : World} (h : All (xs ++ blkC g vs t :: ys) W) (j : Nat) (u : Value) : All (xs ++ blkC g (vs.set j u) t :: ys) (W.setCell ⟨g, j, none⟩ u) :=
  ((h.perm List.perm_middle).setBlk j u).perm List.perm_middle.symm
theorem All.turnP {cs : List Comp} {W W' : World} {a b : Nat} {wi wi' : List (Option Int)} {wt wt' : List (Option ByteArray)} {f f' : Rfs} (h : All (ptC a b wi wt f :: cs) W) (hp : Pt W' a b wi' wt' f') (hf : Fr (blk5 a b f) W W') (e : blk5 a b f' = blk5 a b f) : All (ptC a b wi' wt' f' :: cs) W' :=
  h.turn hf (ptC_good _ _ _ _ _) hp (fun k hk => Or.inl (by have : k ∈ blk5 a b f' := hk; rw [e] at this; exact this)) (fun k hk => hp.lt k hk)
theorem All.first {w : World} {t : Tg} (h : Th w t) : All [ptC t.a t.b (wsOf t.f) (wsT t.f) t.f, oldC w (blk5 t.a t.b t.f)] w := by
  refine ⟨⟨ptC_good _ _ _ _ _, h.pt, fun k hk => h.pt.lt k hk⟩, fun d hd k hk hkd => ?_, ⟨oldC_good _ _, Fr.refl _ _, fun k hk => ?_⟩, fun d hd => (by cases hd), trivial⟩
  · simp only [List.mem_singleton] at hd
    subst hd
    have : k ∉ blk5 t.a t.b t.f := by
      have := (List.mem_filter.1 hkd).2
      simpa using this
    exact this hk
  · exact List.mem_range.1 (List.mem_filter.1 hk).1
theorem All.addRf {cs : List Comp} {w w' : World} {g : Rfs} (h : All cs w) (hb : Below w.heap.size w w') (hr : Rf w' g) (h1 : w.heap.size ≤ g.r) (h2 : w.heap.size ≤ g.s) (h3 : w.heap.size ≤ g.p) : All (rfC g :: cs) w' := by
  refine h.add (Fr.below hb) (rfC_good g) hr (fun k hk => ?_)
  simp only [rfC, List.mem_cons, List.not_mem_nil, or_false] at hk
  rcases hk with rfl | rfl | rfl
  · exact ⟨h1, (Array.getElem?_eq_some_iff.1 hr.blk).1⟩
  · exact ⟨h2, hr.ints.lt⟩
  · exact ⟨h3, hr.bools.lt⟩
/-- A growth behind what the parts reach. -/
theorem All.grown {cs : List Comp} {W W' : World} {row : Option Nat} {N : Nat} (h : All cs W) (hg : W.grownBy W' row) (hr : ∀ r, row = some r → N ≤ r) (hN : ∀ d ∈ cs, ∀ k ∈ d.fp, k < N) : All cs W' := by
  refine h.kept (grown_fr hg) (fun d hd k hk hkd => ?_)
  have h1 := hN d hd k hkd
  have h2 := hr k (by simpa using hk)
  omega
/-- Old blocks of a list alone have turned: the others, and so the loops' records, stand. -/
theorem Fr.keeps {F : List Nat} {W W' : World} {B : Nat} (h : Fr F W W') (hF : ∀ k ∈ F, k < B) : KeepsFrom B W W' :=
  ⟨h.size, fun k o hB hk _ => (h.block k (Array.getElem?_eq_some_iff.1 hk).1 (fun e => by have := hF k e; omega)).trans hk⟩

/-- Who is told has spoken. -/
theorem said_at {f : Rfs} (h1 : f.said.length = f.n) (h2 : f.spoke.length = f.n) {x : Int × Int} (hx : x ∈ said 0 (opt f.said f.spoke)) : ∃ k : Nat, k < f.n ∧ x.1 = k ∧ f.said[k]? = some x.2 ∧ f.spoke[k]? = some true := by
  have key : ∀ (i : Nat) (vs : List Int) (bs : List Bool), x ∈ said i (opt vs bs) → ∃ k : Nat, x.1 = ((i + k : Nat) : Int) ∧ vs[k]? = some x.2 ∧ bs[k]? = some true := by
    intro i vs
    induction vs generalizing i with
    | nil => intro bs h; cases bs <;> simp [opt, said] at h
    | cons v vs ih =>
      intro bs h
      cases bs with
      | nil => simp [opt, said] at h
      | cons b bs =>
        cases b with
        | false =>
          simp only [opt, cond_false, said] at h
          obtain ⟨k, e1, e2, e3⟩ := ih (i + 1) bs h
          exact ⟨k + 1, by rw [e1]; congr 1; omega, by simpa using e2, by simpa using e3⟩
        | true =>
          simp only [opt, cond_true, said, List.mem_cons] at h
          rcases h with rfl | h
          · exact ⟨0, by simp, rfl, rfl⟩
          · obtain ⟨k, e1, e2, e3⟩ := ih (i + 1) bs h
            exact ⟨k + 1, by rw [e1]; congr 1; omega, by simpa using e2, by simpa using e3⟩
  obtain ⟨k, e1, e2, e3⟩ := key 0 _ _ hx
  exact ⟨k, by have := (List.getElem?_eq_some_iff.1 e2).1; omega, by simpa using e1, e2, e3⟩
theorem prefix_mem {α : Type} {pre l : List α} {x : α} (h : pre ++ [x] <+: l) : x ∈ l := by
  obtain ⟨r, hr⟩ := h
  rw [← hr]; simp

/-- The boxes of 'inside' that stand from its beginning on. -/
abbrev tailP (w : World) (a b : Nat) (f : Rfs) : List Comp :=
  [blkC w.heap.size [.pointer (some ⟨a, 0, none⟩), .pointer (some ⟨b, 0, none⟩), .pointer (some ⟨f.r, 0, none⟩)] 42,
    blkC (w.heap.size + 1) [.bool false] 4,
    blkC (w.heap.size + 1 + 1) [.pointer (some ⟨a, 0, none⟩)] 38,
    blkC (w.heap.size + 1 + 1 + 1) [.func (.func 60) #[] #[.pointer (some ⟨w.heap.size + 1 + 1, 0, none⟩)]] 87,
    blkC (w.heap.size + 1 + 1 + 1 + 1) [.int .i64 f.n] 3,
    oldC w (blk5 a b f)]
theorem All.five {w : World} {t : Tg} (h : Th w t) : All (ptC t.a t.b (wsOf t.f) (wsT t.f) t.f :: tailP w t.a t.b t.f)
    (((((w.alloc (.cells #[.pointer (some ⟨t.a, 0, none⟩), .pointer (some ⟨t.b, 0, none⟩), .pointer (some ⟨t.f.r, 0, none⟩)] 42)).alloc (.cells #[.bool false] 4)).alloc (.cells #[.pointer (some ⟨t.a, 0, none⟩)] 38)).alloc (.cells #[.func (.func 60) #[] #[.pointer (some ⟨w.heap.size + 1 + 1, 0, none⟩)]] 87)).alloc (.cells #[.int .i64 t.f.n] 3)) := by
  have hA := (((((All.first h).addBlk [.pointer (some ⟨t.a, 0, none⟩), .pointer (some ⟨t.b, 0, none⟩), .pointer (some ⟨t.f.r, 0, none⟩)] 42).addBlk [.bool false] 4).addBlk [.pointer (some ⟨t.a, 0, none⟩)] 38).addBlk [.func (.func 60) #[] #[.pointer (some ⟨w.heap.size + 1 + 1, 0, none⟩)]] 87).addBlk [.int .i64 t.f.n] 3
  simp only [World.size_alloc] at hA
  refine hA.perm ?_
  have p1 : ∀ (a b c d e x y : Comp), [a, b, c, d, e, x, y].Perm [x, e, d, c, b, a, y] := by
    intro a b c d e x y
    have h1 : [a, b, c, d, e, x].Perm [x, e, d, c, b, a] := (List.reverse_perm [x, e, d, c, b, a])
    exact List.Perm.append_right [y] h1
  exact p1 _ _ _ _ _ _ _

/-- The document's tally, with what it holds by now. -/
abbrev Rfs.now (f : Rfs) (sd : List Int) (sp : List Bool) : Rfs := { f with said := sd, spoke := sp }
/-- All that 'inside' has laid, behind so many who were looked at and told. -/
abbrev partsP (w : World) (a b : Nat) (f : Rfs) (sd : List Int) (sp : List Bool) (N : Nat) (g : Rfs) (p c : Nat) : List Comp :=
  ptC a b (wsOf (f.now sd sp)) (wsT (f.now sd sp)) (f.now sd sp) :: blkC (N + 1) [.int .i64 p] 3 :: blkC (N + 1 + 1) [.int .i64 c] 3 :: blkC N [.pointer (some ⟨g.r, 0, none⟩)] 40 :: rfC g :: tailP w a b f
/-- What a round may turn. -/
abbrev fbL (w : World) (a b : Nat) (f : Rfs) (N : Nat) : List Nat := [w.heap.size + 1, N + 1, N + 1 + 1, a, b, f.r, f.s, f.p]
theorem parts_fp (w : World) (a b : Nat) (f : Rfs) (sd sd' : List Int) (sp sp' : List Bool) (N : Nat) (g : Rfs) (p c p' c' : Nat) : (partsP w a b f sd sp N g p c).map Comp.fp = (partsP w a b f sd' sp' N g p' c').map Comp.fp := rfl
theorem parts_lt {w W : World} {a b : Nat} {f : Rfs} {sd : List Int} {sp : List Bool} {N : Nat} {g : Rfs} {p c : Nat} (h : All (partsP w a b f sd sp N g p c) W) : ∀ (sd' : List Int) (sp' : List Bool) (p' c' : Nat), ∀ d ∈ partsP w a b f sd' sp' N g p' c', ∀ k ∈ d.fp, k < W.heap.size := by
  intro sd' sp' p' c' d hd k hk
  have h1 : d.fp ∈ (partsP w a b f sd sp N g p c).map Comp.fp := by
    rw [parts_fp w a b f sd sd' sp sp' N g p c p' c']
    exact List.mem_map_of_mem hd
  obtain ⟨e, he, hfe⟩ := List.mem_map.1 h1
  exact (h.mem he).2.2 k (by rw [hfe]; exact hk)
theorem fb_lt {w W : World} {a b : Nat} {f : Rfs} {sd : List Int} {sp : List Bool} {N : Nat} {g : Rfs} {p c : Nat} (h : All (partsP w a b f sd sp N g p c) W) : ∀ k ∈ fbL w a b f N, k < W.heap.size := by
  intro k hk
  have h0 := (h.mem (.head _)).2.2
  have h1 := (h.mem (.tail _ (.head _))).2.2
  have h2 := (h.mem (.tail _ (.tail _ (.head _)))).2.2
  have h3 := (h.mem (.tail _ (.tail _ (.tail _ (.tail _ (.tail _ (.tail _ (.head _)))))))).2.2
  simp only [List.mem_cons, List.not_mem_nil, or_false] at hk
  rcases hk with rfl | rfl | rfl | rfl | rfl | rfl | rfl | rfl
  · exact h3 _ (by simp [blkC])
  · exact h1 _ (by simp [blkC])
  · exact h2 _ (by simp [blkC])
  all_goals exact h0 _ (by simp [ptC])
theorem blk_fb (w : World) (a b : Nat) (f : Rfs) (sd : List Int) (sp : List Bool) (N : Nat) : ∀ k ∈ blk5 a b (f.now sd sp), k ∈ fbL w a b f N := by
  intro k hk
  simp only [List.mem_cons, List.not_mem_nil, or_false] at hk
  rcases hk with rfl | rfl | rfl | rfl | rfl <;> simp
theorem Fr.more {F G : List Nat} {w w1 w2 : World} (h : Fr F w w1) (k : Fr G w1 w2) (hs : ∀ k ∈ G, k ∈ F) : Fr F w w2 := h.trans k (fun k hk => Or.inl (hs k hk))
theorem Fr.grown {F : List Nat} {w w1 w2 : World} {row : Option Nat} {N : Nat} (h : Fr F w w1) (hg : w1.grownBy w2 row) (hr : ∀ r, row = some r → N ≤ r) (hN : w.heap.size ≤ N) : Fr F w w2 := h.trans (grown_fr hg) (fun k hk => Or.inr (by have := hr k (by simpa using hk); omega))
theorem Fr.later {F : List Nat} {w w1 w2 : World} (h : Fr F w w1) (hb : Below w1.heap.size w1 w2) : Fr F w w2 := h.trans (Fr.below (F := []) hb) (fun k hk => by cases hk)
/-- Told in the world's own words: where it is. -/
def atIn (n B : Nat) (W : World) : Nat := match W.cell? ⟨B, 0, none⟩ with | some (.int _ i) => ((n : Int) - i).toNat | _ => 0
theorem atIn_eq {n B p : Nat} {W : World} (h : W.cell? ⟨B, 0, none⟩ = some (.int .i64 (p : Int))) : atIn n B W = n - p := by
  unfold atIn; rw [h]; simp
end Go.Proofs.Ytmpbdncgilahkaa
