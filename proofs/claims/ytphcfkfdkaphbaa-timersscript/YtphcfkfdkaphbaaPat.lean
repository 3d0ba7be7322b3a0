import Derived.Test.YtphcfkfdkaphbaaBackC
namespace Go.Proofs.Ytphcfkfdkaphbaa
open Go.RowKit
set_option linter.unusedVariables false

/-- A call of a script. -/
structure Ac where
  kind : Int
  at_ : Int
  name : ByteArray
  num : Int
  ticks : Int

def Ac.cells (x : Ac) : List Value := [.int .i64 x.kind, .int .i64 x.at_, .string x.name, .int .i64 x.num, .int .i64 x.ticks]

/-- A script that came in. -/
def ActsAt (w : World) (v : Value) (xs : List Ac) : Prop := ∃ ao c, v = .slice ao xs.length c ∧ xs.length ≤ maxLen ∧ (xs = [] ∨ ∃ b off, ao = some ⟨b, off, none⟩ ∧ b < w.heap.size ∧ ∀ i x, xs[i]? = some x → ∀ j u, x.cells[j]? = some u → w.cell? ⟨b, off + i * 5 + j, none⟩ = some u)

theorem ActsAt.form {w : World} {v : Value} {xs : List Ac} (h : ActsAt w v xs) : ∃ ao c, v = .slice ao xs.length c := by
  obtain ⟨ao, c, rfl, _⟩ := h
  exact ⟨ao, c, rfl⟩

theorem ActsAt.len {w : World} {v : Value} {xs : List Ac} (h : ActsAt w v xs) : xs.length ≤ maxLen := by
  obtain ⟨ao, c, rfl, h, _⟩ := h
  exact h

theorem ActsAt.at {w w' : World} {ao : Option Addr} {n c : Nat} {xs : List Ac} (h : ActsAt w (.slice ao n c) xs) (hb : Below w.heap.size w w') {i : Nat} {x : Ac} (hi : xs[i]? = some x) :
    ∃ b off, ao = some ⟨b, off, none⟩ ∧ w'.cell? ⟨b, off + i * 5, none⟩ = some (.int .i64 x.kind) ∧ w'.cell? ⟨b, off + i * 5 + 1, none⟩ = some (.int .i64 x.at_) ∧ w'.cell? ⟨b, off + i * 5 + 2, none⟩ = some (.string x.name) ∧ w'.cell? ⟨b, off + i * 5 + 3, none⟩ = some (.int .i64 x.num) ∧ w'.cell? ⟨b, off + i * 5 + 4, none⟩ = some (.int .i64 x.ticks) := by
  obtain ⟨ao', c', e, _, hcase⟩ := h
  simp only [Value.slice.injEq] at e
  obtain ⟨rfl, rfl, rfl⟩ := e
  rcases hcase with rfl | ⟨b, off, rfl, hlt, hc⟩
  · simp at hi
  · exact ⟨b, off, rfl, cell_under hb hlt (hc i x hi 0 _ rfl), cell_under hb hlt (hc i x hi 1 _ rfl), cell_under hb hlt (hc i x hi 2 _ rfl), cell_under hb hlt (hc i x hi 3 _ rfl), cell_under hb hlt (hc i x hi 4 _ rfl)⟩

/-- A backoff, the document's beside it, what both tell. -/
structure Tw where
  P : Nat
  Q : Nat
  n : Int

def Tw.comps (b m : Int) (x : Tw) : List Comp := [blkC x.P (bk b m x.n) 120, blkC x.Q (bk b m x.n) 85]
def ps1 (xs : List Tw) : List Value := xs.map fun x => ptr x.P
def ps2 (xs : List Tw) : List Value := xs.map fun x => ptr x.Q

def patC (b m : Int) (av bv : Value) (xs : List Tw) (cs : List Comp) : List Comp := ownC 75 av (ps1 xs) :: ownC 78 bv (ps2 xs) :: (xs.flatMap (Tw.comps b m) ++ cs)

structure Pat (b m : Int) (av bv : Value) (xs : List Tw) (cs : List Comp) (w : World) : Prop where
  all : All (patC b m av bv xs cs) w
  ok : ∀ x ∈ xs, 1 ≤ x.n ∧ x.n ≤ m
  len : 1 ≤ xs.length ∧ xs.length ≤ 4

theorem flat_split (b m : Int) (pre post : List Tw) (x : Tw) (cs : List Comp) : ((pre ++ x :: post).flatMap (Tw.comps b m) ++ cs).Perm (blkC x.P (bk b m x.n) 120 :: blkC x.Q (bk b m x.n) 85 :: ((pre ++ post).flatMap (Tw.comps b m) ++ cs)) := by
  have e : (pre ++ x :: post).flatMap (Tw.comps b m) ++ cs = pre.flatMap (Tw.comps b m) ++ (blkC x.P (bk b m x.n) 120 :: (blkC x.Q (bk b m x.n) 85 :: (post.flatMap (Tw.comps b m) ++ cs))) := by simp [Tw.comps]
  rw [e]
  refine List.perm_middle.trans (List.Perm.cons _ (List.perm_middle.trans (List.Perm.cons _ ?_)))
  simp

/-- One of them in front. -/
def patR (b m : Int) (av bv : Value) (pre post : List Tw) (P Q : Nat) (cs : List Comp) : List Comp := ownC 75 av (ps1 pre ++ ptr P :: ps1 post) :: ownC 78 bv (ps2 pre ++ ptr Q :: ps2 post) :: ((pre ++ post).flatMap (Tw.comps b m) ++ cs)

theorem pat_perm (b m : Int) (av bv : Value) (pre post : List Tw) (x : Tw) (cs : List Comp) : (patC b m av bv (pre ++ x :: post) cs).Perm (blkC x.P (bk b m x.n) 120 :: blkC x.Q (bk b m x.n) 85 :: patR b m av bv pre post x.P x.Q cs) := by
  have e1 : ps1 (pre ++ x :: post) = ps1 pre ++ ptr x.P :: ps1 post := by simp [ps1]
  have e2 : ps2 (pre ++ x :: post) = ps2 pre ++ ptr x.Q :: ps2 post := by simp [ps2]
  unfold patC patR
  rw [e1, e2]
  refine (((flat_split b m pre post x cs).cons _).cons _).trans ?_
  generalize ownC 78 bv _ = c2
  generalize ownC 75 av _ = c1
  generalize blkC x.P _ _ = d1
  generalize blkC x.Q _ _ = d2
  generalize (pre ++ post).flatMap _ ++ cs = rest
  show ([c1, c2] ++ d1 :: d2 :: rest).Perm (d1 :: d2 :: ([c1, c2] ++ rest))
  exact List.perm_middle.trans (List.Perm.cons _ List.perm_middle)

theorem split_of {α : Type} {xs : List α} {k : Nat} {x : α} (h : xs[k]? = some x) : ∃ pre post, xs = pre ++ x :: post ∧ pre.length = k := by
  obtain ⟨hk, e⟩ := List.getElem?_eq_some_iff.1 h
  refine ⟨xs.take k, xs.drop (k + 1), ?_, by simp; omega⟩
  rw [← e, ← List.drop_eq_getElem_cons hk, List.take_append_drop]

/-- What stands at a place. -/
theorem Pat.front {b m : Int} {av bv : Value} {pre post : List Tw} {x : Tw} {cs : List Comp} {w : World} (h : Pat b m av bv (pre ++ x :: post) cs w) : All (blkC x.P (bk b m x.n) 120 :: blkC x.Q (bk b m x.n) 85 :: patR b m av bv pre post x.P x.Q cs) w := h.all.perm (pat_perm _ _ _ _ _ _ _ _)

theorem pat_back {b m n : Int} {av bv : Value} {pre post : List Tw} {P Q : Nat} {cs : List Comp} {w : World} (h : All (blkC P (bk b m n) 120 :: blkC Q (bk b m n) 85 :: patR b m av bv pre post P Q cs) w) (hok : ∀ y ∈ pre ++ post, 1 ≤ y.n ∧ y.n ≤ m) (hn : 1 ≤ n ∧ n ≤ m) (hl : pre.length + post.length + 1 ≤ 4) : Pat b m av bv (pre ++ ⟨P, Q, n⟩ :: post) cs w :=
  ⟨h.perm (pat_perm b m av bv pre post ⟨P, Q, n⟩ cs).symm, fun y hy => by
    rcases List.mem_append.1 hy with h1 | h1
    · exact hok y (by simp [h1])
    · rcases List.mem_cons.1 h1 with rfl | h2
      · exact hn
      · exact hok y (by simp [h2]), by simp; omega⟩

theorem owns_mid {w : World} {e : TypeId} {ao : Option Addr} {n c : Nat} {us vs : List Value} {u : Value} (h : w.ownsRow 0 e 1 (.slice ao n c) (us ++ u :: vs).length (us ++ u :: vs)) {k : Nat} (hk : us.length = k) : ∃ g, ao = some ⟨g, 0, none⟩ ∧ w.cell? ⟨g, k, none⟩ = some u :=
  let ⟨g, h1, h2, _⟩ := owns_at h (k := k) (u := u) (by rw [List.getElem?_append_right (by omega)]; simp [hk]); ⟨g, h1, h2⟩

/-- The cells that are read. -/
theorem patR_cells {b m : Int} {ao bo : Option Addr} {n n' c c' : Nat} {pre post : List Tw} {P Q : Nat} {cs ds : List Comp} {w : World} (h : All (ds ++ patR b m (.slice ao n c) (.slice bo n' c') pre post P Q cs) w) :
    ∃ ga gb, ao = some ⟨ga, 0, none⟩ ∧ bo = some ⟨gb, 0, none⟩ ∧ w.cell? ⟨ga, pre.length, none⟩ = some (ptr P) ∧ w.cell? ⟨gb, pre.length, none⟩ = some (ptr Q) := by
  have h1 : w.ownsRow 0 75 1 (.slice ao n c) (ps1 pre ++ ptr P :: ps1 post).length (ps1 pre ++ ptr P :: ps1 post) := (h.mem (c := ownC 75 (.slice ao n c) (ps1 pre ++ ptr P :: ps1 post)) (by simp [patR])).2.1
  have h2 : w.ownsRow 0 78 1 (.slice bo n' c') (ps2 pre ++ ptr Q :: ps2 post).length (ps2 pre ++ ptr Q :: ps2 post) := (h.mem (c := ownC 78 (.slice bo n' c') (ps2 pre ++ ptr Q :: ps2 post)) (by simp [patR])).2.1
  obtain ⟨ga, e1, c1⟩ := owns_mid h1 (k := pre.length) (by simp [ps1])
  obtain ⟨gb, e2, c2⟩ := owns_mid h2 (k := pre.length) (by simp [ps2])
  exact ⟨ga, gb, e1, e2, c1, c2⟩

theorem Pat.forms {b m : Int} {av bv : Value} {xs : List Tw} {cs : List Comp} {w : World} (h : Pat b m av bv xs cs w) : ∃ ao c bo c', av = .slice ao xs.length c ∧ bv = .slice bo xs.length c' := by
  obtain ⟨ao, c, e1⟩ := owns_form (h.all.1.2.1 : w.ownsRow 0 75 1 av (ps1 xs).length (ps1 xs))
  obtain ⟨bo, c', e2⟩ := owns_form (h.all.2.2.1.2.1 : w.ownsRow 0 78 1 bv (ps2 xs).length (ps2 xs))
  exact ⟨ao, c, bo, c', by rw [e1]; simp [ps1], by rw [e2]; simp [ps2]⟩

theorem Pat.into {b m : Int} {av bv : Value} {xs : List Tw} {cs : List Comp} {w w0 : World} (h : Pat b m av bv xs cs w) (hin : inC w0 ∈ cs) : Below w0.heap.size w0 w := (h.all.mem (c := inC w0) (by simp [patC, hin])).2.1

theorem Pat.addBlk {b m : Int} {av bv : Value} {xs : List Tw} {cs : List Comp} {w : World} (h : Pat b m av bv xs cs w) (vs : List Value) (t : TypeId) : Pat b m av bv xs (blkC w.heap.size vs t :: cs) (w.alloc (.cells vs.toArray t)) := by
  refine ⟨(h.all.addBlk vs t).perm ?_, h.ok, h.len⟩
  show (blkC w.heap.size vs t :: (ownC 75 av (ps1 xs) :: ownC 78 bv (ps2 xs) :: (xs.flatMap (Tw.comps b m) ++ cs))).Perm ((ownC 75 av (ps1 xs) :: ownC 78 bv (ps2 xs) :: xs.flatMap (Tw.comps b m)) ++ (blkC w.heap.size vs t :: cs))
  exact (List.perm_middle (a := blkC w.heap.size vs t) (l₁ := ownC 75 av (ps1 xs) :: ownC 78 bv (ps2 xs) :: xs.flatMap (Tw.comps b m)) (l₂ := cs)).symm

theorem Pat.dropC {b m : Int} {av bv : Value} {xs : List Tw} {c : Comp} {cs : List Comp} {w : World} (h : Pat b m av bv xs (c :: cs) w) : Pat b m av bv xs cs w :=
  ⟨All.mid (xs := ownC 75 av (ps1 xs) :: ownC 78 bv (ps2 xs) :: xs.flatMap (Tw.comps b m)) h.all, h.ok, h.len⟩

theorem Pat.later {b m : Int} {av bv : Value} {xs : List Tw} {cs : List Comp} {w w' : World} (h : Pat b m av bv xs cs w) (hb : Below w.heap.size w w') : Pat b m av bv xs cs w' := ⟨h.all.later hb, h.ok, h.len⟩

/-- All that a round reads. -/
theorem Pat.open {b m : Int} {ao bo : Option Addr} {n n' c c' : Nat} {ys : List Tw} {cs : List Comp} {w : World} (h : Pat b m (.slice ao n c) (.slice bo n' c') ys cs w) {k : Nat} (hk : k < ys.length) :
    ∃ pre post P Q x ga gb, ys = pre ++ ⟨P, Q, x⟩ :: post ∧ pre.length = k ∧ ao = some ⟨ga, 0, none⟩ ∧ bo = some ⟨gb, 0, none⟩ ∧ 1 ≤ x ∧ x ≤ m ∧ (∀ y ∈ pre ++ post, 1 ≤ y.n ∧ y.n ≤ m) ∧ pre.length + post.length + 1 ≤ 4 ∧ All (blkC P (bk b m x) 120 :: blkC Q (bk b m x) 85 :: patR b m (.slice ao n c) (.slice bo n' c') pre post P Q cs) w := by
  obtain ⟨⟨P, Q, x⟩, hx⟩ : ∃ x, ys[k]? = some x := ⟨_, List.getElem?_eq_getElem hk⟩
  obtain ⟨pre, post, rfl, hp⟩ := split_of hx
  have hA := h.front
  obtain ⟨ga, gb, e1, e2, _, _⟩ := patR_cells (ds := [blkC P (bk b m x) 120, blkC Q (bk b m x) 85]) hA
  have hok := h.ok
  have hl := h.len
  refine ⟨pre, post, P, Q, x, ga, gb, rfl, hp, e1, e2, (hok ⟨P, Q, x⟩ (by simp)).1, (hok ⟨P, Q, x⟩ (by simp)).2, fun y hy => hok y ?_, by simp at hl; omega, hA⟩
  rcases List.mem_append.1 hy with h1 | h1 <;> simp [h1]

theorem blk_cell {cs : List Comp} {w : World} {g : Nat} {vs : List Value} {t : TypeId} (h : All cs w) (hm : blkC g vs t ∈ cs) {j : Nat} {u : Value} (hu : vs[j]? = some u) : w.cell? ⟨g, j, none⟩ = some u ∧ w.frozen? ⟨g, j, none⟩ = false := by
  have hg := h.blk hm
  exact ⟨by rw [cell_at hg]; simpa using hu, free_at hg j⟩

theorem row_cells {b m : Int} {ga gb n n' c c' : Nat} {pre post : List Tw} {P Q : Nat} {cs ds : List Comp} {w : World} (h : All (ds ++ patR b m (.slice (some ⟨ga, 0, none⟩) n c) (.slice (some ⟨gb, 0, none⟩) n' c') pre post P Q cs) w) {k : Nat} (hk : pre.length = k) :
    w.cell? ⟨ga, k, none⟩ = some (.pointer (some ⟨P, 0, none⟩)) ∧ w.cell? ⟨gb, k, none⟩ = some (.pointer (some ⟨Q, 0, none⟩)) := by
  obtain ⟨ga', gb', e1, e2, h1, h2⟩ := patR_cells h
  cases e1
  cases e2
  subst hk
  exact ⟨h1, h2⟩

theorem All.ownSet {e : TypeId} {g n cap k : Nat} {l : List Value} {cs : List Comp} {w : World} (h : All (ownC e (.slice (some ⟨g, 0, none⟩) n cap) l :: cs) w) (x : Value) : All (ownC e (.slice (some ⟨g, 0, none⟩) n cap) (l.set k x) :: cs) (w.setCell ⟨g, k, none⟩ x) := by
  have ho : w.ownsRow 0 e 1 (.slice (some ⟨g, 0, none⟩) n cap) l.length l := h.1.2.1
  obtain ⟨rfl, _⟩ := owns_len ho
  have hs := (World.ownsRow.stored ho k x).1
  refine h.turn (Fr.setCell w g k _) (ownC_good _ _ _) ?_ (Gr.refl _ _) (fun k' hk' => ?_)
  · show World.ownsRow _ 0 e 1 _ (l.set k x).length _
    rw [List.length_set]; exact hs
  · have := h.1.2.2 k' hk'
    simpa [World.setCell] using this

/-- Rows that are on the way. -/
def patM (b m : Int) (av : Value) (us : List Value) (bv : Value) (vs : List Value) (ys : List Tw) (cs : List Comp) : List Comp := ownC 75 av us :: ownC 78 bv vs :: (ys.flatMap (Tw.comps b m) ++ cs)

theorem pat_cloned {b m n : Int} {av bv : Value} {pre post : List Tw} {P Q P' Q' : Nat} {cs : List Comp} {w : World} (h : All (blkC Q' (bk b m n) 85 :: blkC Q (bk b m n) 85 :: blkC P' (bk b m n) 120 :: blkC P (bk b m n) 120 :: patR b m av bv pre post P Q cs) w) :
    All (patM b m av (ps1 (pre ++ ⟨P, Q, n⟩ :: post)) bv (ps2 (pre ++ ⟨P, Q, n⟩ :: post)) (pre ++ ⟨P, Q, n⟩ :: post) (blkC P' (bk b m n) 120 :: blkC Q' (bk b m n) 85 :: cs)) w := by
  refine h.perm ?_
  have e := (pat_perm b m av bv pre post ⟨P, Q, n⟩ (blkC P' (bk b m n) 120 :: blkC Q' (bk b m n) 85 :: cs)).symm
  refine List.Perm.trans ?_ e
  unfold patR
  simp only []
  generalize blkC P' _ _ = c1
  generalize blkC Q' _ _ = c2
  generalize blkC P _ _ = d1
  generalize blkC Q _ _ = d2
  generalize ownC 75 av _ = e1
  generalize ownC 78 bv _ = e2
  generalize (pre ++ post).flatMap _ = ff
  have q1 : (ff ++ c1 :: c2 :: cs).Perm (c1 :: c2 :: (ff ++ cs)) := List.perm_middle.trans (List.Perm.cons _ List.perm_middle)
  refine List.Perm.symm ((((((q1.cons e2).cons e1).cons d2).cons d1)).trans ?_)
  generalize ff ++ cs = rest
  -- d1 d2 e1 e2 c1 c2 rest ~ c2 d2 c1 d1 e1 e2 rest
  have a1 : (d1 :: d2 :: e1 :: e2 :: c1 :: c2 :: rest).Perm (c2 :: d1 :: d2 :: e1 :: e2 :: c1 :: rest) := List.perm_middle (l₁ := [d1, d2, e1, e2, c1])
  have a2 : (d1 :: d2 :: e1 :: e2 :: c1 :: rest).Perm (d2 :: d1 :: e1 :: e2 :: c1 :: rest) := List.Perm.swap _ _ _
  have a3 : (d1 :: e1 :: e2 :: c1 :: rest).Perm (c1 :: d1 :: e1 :: e2 :: rest) := List.perm_middle (l₁ := [d1, e1, e2])
  exact a1.trans ((a2.trans (a3.cons _)).cons _)

theorem patM_app {b m n : Int} {av bv : Value} {ys : List Tw} {P' Q' : Nat} {cs : List Comp} {w : World} (h : All (patM b m av (ps1 ys ++ [ptr P']) bv (ps2 ys ++ [ptr Q']) ys (blkC P' (bk b m n) 120 :: blkC Q' (bk b m n) 85 :: cs)) w) (hok : ∀ y ∈ ys, 1 ≤ y.n ∧ y.n ≤ m) (hn : 1 ≤ n ∧ n ≤ m) (hl : ys.length < 4) : Pat b m av bv (ys ++ [⟨P', Q', n⟩]) cs w := by
  refine ⟨?_, fun y hy => ?_, by simp; omega⟩
  · have e : patC b m av bv (ys ++ [⟨P', Q', n⟩]) cs = patM b m av (ps1 ys ++ [ptr P']) bv (ps2 ys ++ [ptr Q']) ys (blkC P' (bk b m n) 120 :: blkC Q' (bk b m n) 85 :: cs) := by
      simp [patC, patM, ps1, ps2, Tw.comps]
    rw [e]
    exact h
  · rcases List.mem_append.1 hy with h1 | h1
    · exact hok y h1
    · simp at h1; subst h1; exact hn

theorem patM_set {b m n : Int} {av bv : Value} {ys : List Tw} {P' Q' k : Nat} {cs : List Comp} {w : World} (h : All (patM b m av ((ps1 ys).set k (ptr P')) bv ((ps2 ys).set k (ptr Q')) ys (blkC P' (bk b m n) 120 :: blkC Q' (bk b m n) 85 :: cs)) w) (hok : ∀ y ∈ ys, 1 ≤ y.n ∧ y.n ≤ m) (hn : 1 ≤ n ∧ n ≤ m) (hl : ys.length ≤ 4) (hk : k < ys.length) : Pat b m av bv (ys.set k ⟨P', Q', n⟩) cs w := by
  refine ⟨?_, fun y hy => ?_, by simp; omega⟩
  · obtain ⟨z, hz⟩ : ∃ z, ys[k]? = some z := ⟨_, List.getElem?_eq_getElem hk⟩
    obtain ⟨pre, post, rfl, hp⟩ := split_of hz
    have e0 : (pre ++ z :: post).set k ⟨P', Q', n⟩ = pre ++ ⟨P', Q', n⟩ :: post := by subst hp; simp
    have e1 : (ps1 (pre ++ z :: post)).set k (ptr P') = ps1 (pre ++ ⟨P', Q', n⟩ :: post) := by rw [← e0]; simp [ps1, List.map_set]
    have e2 : (ps2 (pre ++ z :: post)).set k (ptr Q') = ps2 (pre ++ ⟨P', Q', n⟩ :: post) := by rw [← e0]; simp [ps2, List.map_set]
    rw [e0]
    rw [e1, e2] at h
    unfold patM at h
    have h1 := h.perm (((flat_split b m pre post z (blkC P' (bk b m n) 120 :: blkC Q' (bk b m n) 85 :: cs)).cons _).cons _)
    have h2 := All.mid (xs := [ownC 75 av _, ownC 78 bv _]) h1
    have h3 := All.mid (xs := [ownC 75 av _, ownC 78 bv _]) h2
    refine h3.perm (((?_ : List.Perm _ _).cons _).cons _)
    refine List.Perm.trans ?_ (flat_split b m pre post ⟨P', Q', n⟩ cs).symm
    exact List.perm_middle.trans (List.Perm.cons _ List.perm_middle)
  · rcases List.mem_or_eq_of_mem_set hy with h1 | h1
    · exact hok y h1
    · subst h1; exact hn
end Go.Proofs.Ytphcfkfdkaphbaa
