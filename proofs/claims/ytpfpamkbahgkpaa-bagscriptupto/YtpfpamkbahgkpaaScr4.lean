import Derived.Test.YtpfpamkbahgkpaaScr3
import Derived.Test.YtpfpamkbahgkpaaLaw4
import Derived.Test.YtpfpamkbahgkpaaOps
namespace Go.Proofs.Ytpfpamkbahgkpaa
open Go.RowKit
set_option linter.unusedVariables false

/-- A pair of bags, or none. -/
def pL : Option (Bg × Bg) → List Comp
  | none => []
  | some x => x.1.L ++ x.2.M
def pB : Option (Bg × Bg) → Value
  | none => .pointer none
  | some x => x.1.V
def pD : Option (Bg × Bg) → Value
  | none => .pointer none
  | some x => x.2.V
def pOk (P : List (Value × List UInt8)) (k : Nat) : Option (Bg × Bg) → Prop
  | none => True
  | some x => x.1.In P ∧ x.2.In P ∧ x.2.ab = x.1.ab ∧ x.1.ab.Ok k ∧ x.1.ab.Sm
theorem pOk.more {P P' : List (Value × List UInt8)} {k m : Nat} {p : Option (Bg × Bg)} (h : pOk P k p) (hs : ∀ e ∈ P, e ∈ P') (hm : k ≤ m) : pOk P' m p := by
  cases p with
  | none => trivial
  | some x => exact ⟨h.1.more hs, h.2.1.more hs, h.2.2.1, h.2.2.2.1.more hm, h.2.2.2.2⟩
/-- Two pairs, and what is laid by. -/
structure Wk (w : World) (S M k : Nat) (p q : Option (Bg × Bg)) (cs : List Comp) : Prop where
  ex : ∃ P, pOk P k p ∧ pOk P k q ∧ Hd w S M (poolC P :: (pL p ++ (pL q ++ cs)))
theorem Wk.swap {w : World} {S M k : Nat} {p q : Option (Bg × Bg)} {cs : List Comp} (h : Wk w S M k p q cs) : Wk w S M k q p cs := by
  obtain ⟨P, h1, h2, h3⟩ := h.ex
  exact ⟨P, h2, h1, h3.perm (perm_swap3 _ _ _ _)⟩
theorem Wk.more {w : World} {S M k M' k' : Nat} {p q : Option (Bg × Bg)} {cs : List Comp} (h : Wk w S M k p q cs) (hM : M ≤ M') (hk : k ≤ k') : Wk w S M' k' p q cs := by
  obtain ⟨P, h1, h2, h3⟩ := h.ex
  exact ⟨P, h1.more (fun e h => h) hk, h2.more (fun e h => h) hk, h3.more hM⟩
theorem Wk.later {w w' : World} {S M k : Nat} {p q : Option (Bg × Bg)} {cs : List Comp} (h : Wk w S M k p q cs) (hb : Below w.heap.size w w') : Wk w' S M k p q cs := by
  obtain ⟨P, h1, h2, h3⟩ := h.ex
  exact ⟨P, h1, h2, h3.later hb⟩
theorem Wk.addBlk {w : World} {S M k : Nat} {p q : Option (Bg × Bg)} {cs : List Comp} (h : Wk w S M k p q cs) (vs : List Value) (t : TypeId) : Wk (w.alloc (.cells vs.toArray t)) S M k p q (blkC w.heap.size vs t :: cs) := by
  obtain ⟨P, h1, h2, h3⟩ := h.ex
  obtain ⟨X, A, hX⟩ := h3.split
  refine ⟨P, h1, h2, hX _ _ ((A.addBlk vs t).perm ?_)⟩
  have := List.perm_append_comm_assoc [blkC w.heap.size vs t] (poolC P :: (pL p ++ pL q)) (cs ++ X)
  simpa using this
theorem Wk.blk {w : World} {S M k K : Nat} {vs : List Value} {t : TypeId} {p q : Option (Bg × Bg)} {cs : List Comp} (h : Wk w S M k p q (blkC K vs t :: cs)) : w.heap[K]? = some (.cells vs.toArray t (0, 0)) := by
  obtain ⟨P, h1, h2, h3⟩ := h.ex
  obtain ⟨X, A, hX⟩ := h3.split
  exact (A.mem (c := blkC K vs t) (by simp)).2.1
theorem Wk.drop {w : World} {S M k : Nat} {c : Comp} {p q : Option (Bg × Bg)} {cs : List Comp} (h : Wk w S M k p q (c :: cs)) : Wk w S M k p q cs := by
  obtain ⟨P, h1, h2, h3⟩ := h.ex
  obtain ⟨X, A, hX⟩ := h3.split
  refine ⟨P, h1, h2, hX _ _ ?_⟩
  have A1 : All ((poolC P :: (pL p ++ pL q)) ++ c :: (cs ++ X)) w := by simpa using A
  have := A1.mid
  simpa using this
theorem Wk.into {w w0 : World} {S M k : Nat} {p q : Option (Bg × Bg)} {cs : List Comp} (h : Wk w S M k p q cs) (hin : inC w0 ∈ cs) : Below w0.heap.size w0 w := by
  obtain ⟨P, h1, h2, h3⟩ := h.ex
  obtain ⟨X, A, hX⟩ := h3.split
  exact A.into (by simp [hin])
theorem Wk.changes {w w0 : World} {S M k : Nat} {B D : Bg} {q : Option (Bg × Bg)} {cs : List Comp} {o : Op1} {ao : Option Addr} {c : Nat} (h : Wk w S M k (some (B, D)) q cs) (hin : inC w0 ∈ cs) (hk : k < 4611686018427387904) (hM : M + 4096 ≤ 1099511627776) (hr : Reads w0 (.slice ao o.d.length c) o.d) (hl : o.d.length ≤ 1048576) :
    Calls Try.prog 12 #[B.V, D.V, .pointer (some ⟨S, 0, none⟩), .agg #[.bool o.s, .int .i64 o.k, .int .i64 o.a, .int .i64 o.b, .int .i64 o.y, .slice ao o.d.length c]] w fun e w' => e = .returned (.bool true) ∧ ∃ B' D', B'.b = B.b ∧ D'.b = D.b ∧ Wk w' S (M + 4096) (k + 1) (some (B', D')) q cs := by
  obtain ⟨P, ⟨h1, h2, h3, h4, h5⟩, g, I⟩ := h.ex
  have I2 : Hd w S M (poolC P :: (B.L ++ (D.M ++ (pL q ++ cs)))) := by simpa [pL] using I
  refine (changes_any (w0 := w0) I2 h1 h2 h3 h4 hk h5 hM (by simp [hin]) hr (by omega)).mono ?_
  rintro e w' ⟨rfl, P', B', D', e1, e2, e3, e4, e5, e6, e7, e8⟩
  refine ⟨rfl, B', D', e1, e2, P', ⟨e5, e6, e4.trans e3.symm, by rw [e3]; exact h4.one o, by rw [e3]; exact h5.one o (by omega)⟩, g.more e7 (by omega), by simpa [pL] using e8⟩
theorem Wk.tells {w w0 : World} {S M k : Nat} {B D : Bg} {q : Option (Bg × Bg)} {cs : List Comp} {o : Op1} {ao : Option Addr} {c : Nat} (h : Wk w S M k (some (B, D)) q cs) (hk : k < 4611686018427387904) (hM : M + 4096 ≤ 1099511627776) :
    Calls Try.prog 13 #[B.V, D.V, .pointer (some ⟨S, 0, none⟩), .agg #[.bool o.s, .int .i64 o.k, .int .i64 o.a, .int .i64 o.b, .int .i64 o.y, .slice ao o.d.length c]] w fun e w' => e = .returned (.bool true) ∧ ∃ B' D', B'.b = B.b ∧ D'.b = D.b ∧ Wk w' S (M + 4096) k (some (B', D')) q cs := by
  obtain ⟨P, ⟨h1, h2, h3, h4, h5⟩, g, I⟩ := h.ex
  have I2 : Hd w S M (poolC P :: (B.L ++ (D.M ++ (pL q ++ cs)))) := by simpa [pL] using I
  refine (tells_any (w0 := w) I2 h1 h2 h3 h4 hk h5 hM).mono ?_
  rintro e w' ⟨rfl, P', B', D', e1, e2, e3, e4, e5, e6, e7, e8⟩
  refine ⟨rfl, B', D', e1, e2, P', ⟨e5, e6, e4.trans e3.symm, by rw [e3]; exact h4, by rw [e3]; exact h5⟩, g.more e7 (by omega), by simpa [pL] using e8⟩
theorem Wk.holds {w : World} {S M k : Nat} {p q : Option (Bg × Bg)} {cs : List Comp} (h : Wk w S M k p q cs) (hM : M ≤ 1099511627776) :
    Calls Try.prog 14 #[.pointer (some ⟨S, 0, none⟩)] w fun e w' => e = .returned (.bool true) ∧ Wk w' S M k p q cs := by
  obtain ⟨P, h1, h2, h3⟩ := h.ex
  refine (h3.holds hM).mono ?_
  rintro e w' ⟨rfl, I⟩
  exact ⟨rfl, P, h1, h2, I⟩
/-- The program's clone is made, the document's not yet. -/
structure Wc (w : World) (S M k : Nat) (B D C : Bg) (cs : List Comp) : Prop where
  ex : ∃ P, pOk P k (some (B, D)) ∧ C.In P ∧ C.ab = B.ab ∧ Hd w S M (poolC P :: (C.L ++ (B.L ++ (D.M ++ cs))))
theorem Wk.clone {w : World} {S M k : Nat} {B D : Bg} {q : Option (Bg × Bg)} {cs : List Comp} (h : Wk w S M k (some (B, D)) q cs) :
    Calls Try.prog 10 #[B.V] w fun e w' => ∃ C : Bg, e = .returned (.pointer (some ⟨C.b, 0, none⟩)) ∧ Wc w' S M k B D C cs := by
  obtain ⟨P, ⟨h1, h2, h3, h4, h5⟩, g, I⟩ := h.ex
  obtain ⟨X, A, hX⟩ := I.split
  have A1 : All (pL q ++ (B.L ++ (poolC P :: (D.M ++ (cs ++ X))))) w := A.perm (by
    have := perm_by 5 [[poolC P], B.L, D.M, pL q, cs ++ X] [3, 1, 0, 2, 4] rfl (by decide)
    simpa [List.getD, pL] using this)
  have hn : B.ps.length ≤ 1024 := by rw [← B.ab_len]; exact h4.small
  refine (Clone_any A1.right hn).mono ?_
  rintro e w' ⟨b, v, rfl, A2⟩
  refine ⟨Bg.mk b B.r B.l v B.ps, rfl, P, ⟨h1, h2, h3, h4, h5⟩, h1, rfl, hX _ _ (A2.perm ?_)⟩
  have := perm_by 5 [(Bg.mk b B.r B.l v B.ps).L, B.L, [poolC P], D.M, cs ++ X] [2, 0, 1, 3, 4] rfl (by decide)
  simpa [List.getD] using this
theorem Wc.clone {w : World} {S M k : Nat} {B D C : Bg} {cs : List Comp} (h : Wc w S M k B D C cs) :
    Calls Try.prog 11 #[D.V] w fun e w' => ∃ E : Bg, e = .returned (.pointer (some ⟨E.b, 0, none⟩)) ∧ Wk w' S M k (some (B, D)) (some (C, E)) cs := by
  obtain ⟨P, ⟨h1, h2, h3, h4, h5⟩, g1, g2, I⟩ := h.ex
  obtain ⟨X, A, hX⟩ := I.split
  have A1 : All (poolC P :: (D.M ++ (C.L ++ (B.L ++ (cs ++ X))))) w := A.perm (by
    have := perm_by 5 [[poolC P], C.L, B.L, D.M, cs ++ X] [0, 3, 1, 2, 4] rfl (by decide)
    simpa [List.getD] using this)
  have hn : D.ps.length ≤ 1024 := by rw [← D.ab_len, h3]; exact h4.small
  refine (rClone_any A1 h2 hn).mono ?_
  rintro e w' ⟨b, P', E, rfl, e1, e2, e3, e4, A2⟩
  refine ⟨E, by rw [e1], P', ⟨h1.more e4, h2.more e4, h3, h4, h5⟩, ⟨g1.more e4, e3, by show E.ab = C.ab; rw [e2, g2, h3], by show C.ab.Ok k; rw [g2]; exact h4, by show C.ab.Sm; rw [g2]; exact h5⟩, hX _ _ (A2.perm ?_)⟩
  have := perm_by 6 [[poolC P'], E.M, D.M, C.L, B.L, cs ++ X] [0, 4, 2, 3, 1, 5] rfl (by decide)
  simpa [List.getD, pL] using this
/-- Behind the last spoil. -/
structure Wz (w : World) (p q : Option (Bg × Bg)) (cs : List Comp) : Prop where
  ex : ∃ P k, pOk P k p ∧ pOk P k q ∧ All (poolC P :: (pL p ++ (pL q ++ cs))) w
theorem Wz.swap {w : World} {p q : Option (Bg × Bg)} {cs : List Comp} (h : Wz w p q cs) : Wz w q p cs := by
  obtain ⟨P, k, h1, h2, h3⟩ := h.ex
  exact ⟨P, k, h2, h1, h3.perm (perm_swap3 _ _ _ _)⟩
theorem Wk.spoil {w : World} {S M k : Nat} {p q : Option (Bg × Bg)} {cs : List Comp} (h : Wk w S M k p q cs) (hM : M ≤ 1099511627776) :
    Calls Try.prog 15 #[.pointer (some ⟨S, 0, none⟩)] w fun e w' => e = .returned (.bool true) ∧ Wz w' p q cs := by
  obtain ⟨P, h1, h2, h3⟩ := h.ex
  refine (h3.spoil hM).mono ?_
  rintro e w' ⟨rfl, ov, wv, A⟩
  exact ⟨rfl, P, k, h1, h2, A.tail⟩
/-- Both lists of a pair, and that they are alike. -/
theorem Wz.lists {w : World} {B D : Bg} {q : Option (Bg × Bg)} {cs : List Comp} (h : Wz w (some (B, D)) q cs) :
    Calls Try.prog 17 #[B.V] w fun e w1 => ∃ v, e = .returned v ∧ Hid (Calls Try.prog 18 #[D.V] w1 fun e w2 => ∃ v', e = .returned v' ∧ Hid (Calls Try.prog 16 #[v, v'] w2 fun e w3 => e = .returned (.bool true) ∧ Wz w3 (some (B, D)) q cs)) := by
  obtain ⟨P, k, ⟨h1, h2, h3, h4, h5⟩, g, A⟩ := h.ex
  have A0 : All (poolC P :: (B.L ++ (D.M ++ (pL q ++ cs)))) w := by simpa [pL] using A
  have hn : B.ps.length ≤ 1024 := by rw [← B.ab_len]; exact h4.small
  have hnD : D.ps.length ≤ 1024 := by rw [← D.ab_len, h3]; exact h4.small
  refine (List_any A0 h1 hn).mono ?_
  rintro e w1 ⟨H, q1, rfl, m1, -, A1⟩
  refine ⟨_, rfl, hid ?_⟩
  have A2 : All (poolC P :: (D.M ++ (pkC (.slice (some ⟨H, 0, none⟩) B.ps.length B.ps.length) q1 :: (datL q1 ++ (B.L ++ (pL q ++ cs)))))) w1 := A1.perm (by
    have := perm_by 5 [pkC (.slice (some ⟨H, 0, none⟩) B.ps.length B.ps.length) q1 :: datL q1, [poolC P], B.L, D.M, pL q ++ cs] [1, 3, 0, 2, 4] rfl (by decide)
    simpa [List.getD] using this)
  refine (rList_any A2 h2 hnD).mono ?_
  rintro e w2 ⟨v3, q3, rfl, m3, A3⟩
  refine ⟨_, rfl, hid ?_⟩
  have eD : D.ps.map Pk.ap = B.ps.map Pk.ap := congrArg AB.ps h3
  have l1 : q1.length = B.ps.length := by have := congrArg List.length m1; simpa using this
  refine (same_lists (qs := q1) (rs := q3) A3 (by simp) (fun q hq => by have : byC q.D q.bs ∈ datL q1 := List.mem_map.2 ⟨q, hq, rfl⟩; simp only [List.mem_cons, List.mem_append, this, true_or, or_true]) (by simp) (fun q hq => by have : byC q.D q.bs ∈ datL q3 := List.mem_map.2 ⟨q, hq, rfl⟩; simp only [List.mem_cons, List.mem_append, this, true_or, or_true]) (by rw [m1, m3, eD]) (h5.list m1) (by omega)).mono ?_
  rintro e w3 ⟨rfl, A4⟩
  refine ⟨rfl, P, k, ⟨h1, h2, h3, h4, h5⟩, g, ?_⟩
  have A5 : All ((pkC v3 q3 :: datL q3) ++ ((pkC (.slice (some ⟨H, 0, none⟩) B.ps.length B.ps.length) q1 :: datL q1) ++ (poolC P :: (B.L ++ (D.M ++ (pL q ++ cs)))))) w3 := A4.perm (by
    have := perm_by 6 [pkC v3 q3 :: datL q3, [poolC P], D.M, pkC (.slice (some ⟨H, 0, none⟩) B.ps.length B.ps.length) q1 :: datL q1, B.L, pL q ++ cs] [0, 3, 1, 4, 2, 5] rfl (by decide)
    simpa [List.getD] using this)
  have := A5.right.right
  simpa [pL] using this
theorem Wz.into {w w0 : World} {p q : Option (Bg × Bg)} {cs : List Comp} (h : Wz w p q cs) (hin : inC w0 ∈ cs) : Below w0.heap.size w0 w := by
  obtain ⟨P, k, h1, h2, h3⟩ := h.ex
  exact h3.into (by simp [hin])

set_option maxRecDepth 1000000 in
/-- begun. -/
theorem begun_any {r : Int} {cs : List Comp} {w : World} (h : All cs w) : Calls Try.prog 9 #[.int .i64 r] w fun e w' => ∃ p, e = .returned (.tuple #[pB p, pD p, .bool true]) ∧ pOk [] 0 p ∧ All (pL p ++ cs) w' := by
  by_cases hr : 1 ≤ r ∧ r ≤ 1024
  · obtain ⟨h1, h2⟩ := hr
    have C1 := hid (New_ok h h1 h2)
    clear h
    go_enter Try.func9, Try.ntmps9
    go_wp2_with fail
    refine C1.out.mono ?_
    rintro e w1 ⟨b, rfl, A1⟩
    have C2 := hid (rNew_ok A1 h1 h2)
    clear C1 A1
    go_wp2_with fail
    refine C2.out.mono ?_
    rintro e w2 ⟨d, rfl, A2⟩
    have A2 := hid A2
    clear C2
    go_wp2
    go_ret3
    refine ⟨some (Bg.mk b r 0 (.slice none 0 0) [], Bg.mk d r 0 (.slice none 0 0) []), rfl, ⟨fun p hp => (by cases hp), fun p hp => (by cases hp), rfl, AB.Ok.new h1 h2, fun p hp => (by cases hp)⟩, ?_⟩
    have := A2.out.perm (List.perm_append_comm_assoc _ _ _)
    simpa [pL] using this
  · have C1 := hid (fun w => New_no (w := w) hr)
    have C2 := hid (fun w => rNew_no (w := w) hr)
    have A := hid h
    clear h hr
    go_enter Try.func9, Try.ntmps9
    go_wp2_with fail
    refine (C1.out _).mono ?_
    rintro e w1 ⟨rfl, hw1⟩
    subst hw1
    go_wp2_with fail
    refine (C2.out _).mono ?_
    rintro e w1 ⟨rfl, hw1⟩
    subst hw1
    go_wp2
    go_ret3
    exact ⟨none, rfl, trivial, A.out⟩
end Go.Proofs.Ytpfpamkbahgkpaa
