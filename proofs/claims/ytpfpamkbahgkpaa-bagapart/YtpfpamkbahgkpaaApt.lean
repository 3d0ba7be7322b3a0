import Derived.Test.YtpfpamkbahgkpaaOps
import Derived.Test.YtpfpamkbahgkpaaLaw4
namespace Go.Proofs.Ytpfpamkbahgkpaa
open Go.RowKit
set_option linter.unusedVariables false

/-- Bags, where they lie and what is seen of them, and what lies beside them. -/
structure Bags (w : World) (bs : List (Nat × AB)) (k : Nat) (cs : List Comp) : Prop where
  ex : ∃ (P : List (Value × List UInt8)) (Bs : List Bg), Bs.map (fun B => (B.b, B.ab)) = bs ∧ (∀ B ∈ Bs, B.In P ∧ B.ab.Ok k) ∧ All (poolC P :: (Bs.flatMap Bg.L ++ cs)) w

theorem Bags.later {w w' : World} {bs : List (Nat × AB)} {k : Nat} {cs : List Comp} (h : Bags w bs k cs) (hb : Below w.heap.size w w') : Bags w' bs k cs := by
  obtain ⟨P, Bs, h1, h2, h3⟩ := h.ex
  exact ⟨P, Bs, h1, h2, h3.later hb⟩
theorem Bags.more {w : World} {bs : List (Nat × AB)} {k m : Nat} {cs : List Comp} (h : Bags w bs k cs) (hm : k ≤ m) : Bags w bs m cs := by
  obtain ⟨P, Bs, h1, h2, h3⟩ := h.ex
  exact ⟨P, Bs, h1, fun B hB => ⟨(h2 B hB).1, (h2 B hB).2.more hm⟩, h3⟩
theorem Bags.empty {w : World} {cs : List Comp} (h : All cs w) : Bags w [] 0 cs := ⟨[], [], rfl, fun B hB => (by cases hB), h.pool0⟩
theorem bags_perm (pre post : List Bg) (B : Bg) (cs : List Comp) : ((pre ++ B :: post).flatMap Bg.L ++ cs).Perm (B.L ++ ((pre ++ post).flatMap Bg.L ++ cs)) := by
  rw [List.flatMap_append, List.flatMap_cons, List.flatMap_append, List.append_assoc, List.append_assoc, List.append_assoc]
  exact List.perm_append_comm_assoc _ _ _
theorem map_split {α β : Type} {f : α → β} {l : List α} {pre post : List β} {x : β} (h : l.map f = pre ++ x :: post) : ∃ p a q, l = p ++ a :: q ∧ p.map f = pre ∧ f a = x ∧ q.map f = post := by
  obtain ⟨p, r, rfl, hp, hr⟩ := List.map_eq_append_iff.1 h
  obtain ⟨a, q, rfl, ha, hq⟩ := List.map_eq_cons_iff.1 hr
  exact ⟨p, a, q, rfl, hp, ha, hq⟩
/-- A step at one of them. -/
theorem Bags.one {w : World} {pre post : List (Nat × AB)} {b : Nat} {A : AB} {k : Nat} {cs : List Comp} {o : Op1} {ao : Option Addr} {c : Nat} (h : Bags w (pre ++ (b, A) :: post) k cs) (hk : k < 4611686018427387904) (hr : Reads w (.slice ao o.d.length c) o.d) (hl : o.d.length ≤ 140737488355328) :
    Calls Try.prog 20 #[.pointer (some ⟨b, 0, none⟩), .agg #[.bool o.s, .int .i64 o.k, .int .i64 o.a, .int .i64 o.b, .int .i64 o.y, .slice ao o.d.length c]] w fun e w' => e = .returned (.int .i64 (A.oneE o)) ∧ Bags w' (pre ++ (b, A.one o) :: post) (k + 1) cs := by
  obtain ⟨P, Bs, h1, h2, h3⟩ := h.ex
  obtain ⟨p, B, q, rfl, rfl, hB, rfl⟩ := map_split h1
  simp only [Prod.mk.injEq] at hB
  obtain ⟨rfl, rfl⟩ := hB
  have hB := h2 B (by simp)
  refine (one_any (h3.perm (List.Perm.cons _ (bags_perm _ _ _ _))) hB.1 hB.2 hk hr hl).mono ?_
  rintro e w' ⟨rfl, P', B', e1, e2, e3, e4, A'⟩
  refine ⟨rfl, P', p ++ B' :: q, by simp [e1, e2], fun X hX => ?_, A'.perm (List.Perm.cons _ (bags_perm _ _ _ _).symm)⟩
  rcases List.mem_append.1 hX with hX | hX
  · exact ⟨(h2 X (by simp [hX])).1.more e4, (h2 X (by simp [hX])).2.more (by omega)⟩
  · rcases List.mem_cons.1 hX with rfl | hX
    · exact ⟨e3, by rw [e2]; exact hB.2.one o⟩
    · exact ⟨(h2 X (by simp [hX])).1.more e4, (h2 X (by simp [hX])).2.more (by omega)⟩
/-- A list of packets that were told. -/
structure Lst (cs : List Comp) (v : Value) (ps : List AP) : Prop where
  ex : ∃ qs : List Pk, qs.map Pk.ap = ps ∧ pkC v qs ∈ cs ∧ ∀ q ∈ qs, byC q.D q.bs ∈ cs ∧ q.bs.length ≤ 140737488355328
theorem Lst.mono {cs ds : List Comp} {v : Value} {ps : List AP} (h : Lst cs v ps) (hs : ∀ c ∈ cs, c ∈ ds) : Lst ds v ps := by
  obtain ⟨qs, h1, h2, h3⟩ := h.ex
  exact ⟨qs, h1, hs _ h2, fun q hq => ⟨hs _ (h3 q hq).1, (h3 q hq).2⟩⟩
/-- List of one of them. -/
theorem Bags.list {w : World} {pre post : List (Nat × AB)} {b : Nat} {A : AB} {k : Nat} {cs : List Comp} (h : Bags w (pre ++ (b, A) :: post) k cs) :
    Calls Try.prog 17 #[.pointer (some ⟨b, 0, none⟩)] w fun e w' => ∃ H m ds, e = .returned (.slice (some ⟨H, 0, none⟩) m m) ∧ m = A.ps.length ∧ Lst ds (.slice (some ⟨H, 0, none⟩) m m) A.ps ∧ Bags w' (pre ++ (b, A) :: post) k (ds ++ cs) := by
  obtain ⟨P, Bs, h1, h2, h3⟩ := h.ex
  obtain ⟨p, B, q, rfl, rfl, hB, rfl⟩ := map_split h1
  simp only [Prod.mk.injEq] at hB
  obtain ⟨rfl, rfl⟩ := hB
  have hB := h2 B (by simp)
  have hm := hB.2.small
  rw [B.ab_len] at hm
  refine (List_any (h3.perm (List.Perm.cons _ (bags_perm _ _ _ _))) hB.1 hm).mono ?_
  rintro e w' ⟨H, qs, rfl, hqs, -, A'⟩
  refine ⟨H, B.ps.length, pkC (.slice (some ⟨H, 0, none⟩) B.ps.length B.ps.length) qs :: datL qs, rfl, (B.ab_len).symm, ⟨qs, hqs, by simp, fun x hx => ⟨by simp only [List.mem_cons]; exact Or.inr (List.mem_map.2 ⟨x, hx, rfl⟩), ?_⟩⟩, P, p ++ B :: q, by simp, h2, ?_⟩
  · have hx2 : x.ap ∈ B.ps.map Pk.ap := by rw [← hqs]; exact List.mem_map_of_mem hx
    obtain ⟨p0, hp0, e0⟩ := List.mem_map.1 hx2
    have e1 : p0.bs = x.bs := congrArg AP.bs e0
    rw [← e1]
    exact (hB.1 p0 hp0).2
  · have A2 : All (poolC P :: (B.L ++ ((pkC (.slice (some ⟨H, 0, none⟩) B.ps.length B.ps.length) qs :: datL qs) ++ ((p ++ q).flatMap Bg.L ++ cs)))) w' := A'.perm (List.perm_append_comm_assoc (pkC (.slice (some ⟨H, 0, none⟩) B.ps.length B.ps.length) qs :: datL qs) (poolC P :: B.L) ((p ++ q).flatMap Bg.L ++ cs))
    have A3 : All (poolC P :: (B.L ++ ((p ++ q).flatMap Bg.L ++ ((pkC (.slice (some ⟨H, 0, none⟩) B.ps.length B.ps.length) qs :: datL qs) ++ cs)))) w' := A2.perm (List.Perm.cons _ (List.Perm.append_left _ (List.perm_append_comm_assoc (pkC (.slice (some ⟨H, 0, none⟩) B.ps.length B.ps.length) qs :: datL qs) ((p ++ q).flatMap Bg.L) cs)))
    exact A3.perm (List.Perm.cons _ (bags_perm _ _ _ _).symm)
/-- Two lists that tell the same. -/
theorem Bags.same {w : World} {bs : List (Nat × AB)} {k : Nat} {cs : List Comp} {v v' : Value} {ps : List AP} (h : Bags w bs k cs) (h1 : Lst cs v ps) (h2 : Lst cs v' ps) (hn : ps.length ≤ 1024) :
    Calls Try.prog 16 #[v, v'] w fun e w' => e = .returned (.bool true) ∧ Bags w' bs k cs := by
  obtain ⟨P, Bs, e1, e2, A⟩ := h.ex
  obtain ⟨qs, a1, a2, a3⟩ := h1.ex
  obtain ⟨rs, b1, b2, b3⟩ := h2.ex
  have hm : ∀ c ∈ cs, c ∈ poolC P :: (Bs.flatMap Bg.L ++ cs) := fun c hc => by simp [hc]
  refine (samePackets_true (w := w) (a1.trans b1.symm) (PksAt.of_owns (A.mem (hm _ a2)).2.1) (PksAt.of_owns (A.mem (hm _ b2)).2.1) (fun q hq => ⟨A.byReads (hm _ (a3 q hq).1), (a3 q hq).2⟩) (fun q hq => A.byReads (hm _ (b3 q hq).1)) (by have := congrArg List.length a1; rw [List.length_map] at this; omega)).mono ?_
  rintro e w' ⟨rfl, hb⟩
  exact ⟨rfl, h.later hb⟩
/-- A new one. -/
theorem Bags.new {w : World} {bs : List (Nat × AB)} {k : Nat} {cs : List Comp} {r : Int} (h : Bags w bs k cs) (h1 : 1 ≤ r) (h2 : r ≤ 1024) :
    Calls Try.prog 19 #[.int .i64 r] w fun e w' => ∃ b, e = .returned (.tuple #[.pointer (some ⟨b, 0, none⟩), .int .i64 0]) ∧ Bags w' ((b, AB.mk r 0 []) :: bs) k cs := by
  obtain ⟨P, Bs, e1, e2, A⟩ := h.ex
  refine (New_ok A h1 h2).mono ?_
  rintro e w' ⟨b, rfl, A'⟩
  refine ⟨b, rfl, P, Bg.mk b r 0 (.slice none 0 0) [] :: Bs, by rw [List.map_cons, e1]; rfl, fun X hX => ?_, A'.perm (perm12 _ _ _ _).symm⟩
  rcases List.mem_cons.1 hX with rfl | hX
  · exact ⟨fun p hp => (by cases hp), (AB.Ok.new h1 h2).more (by omega)⟩
  · exact e2 X hX
/-- A clone of one of them. -/
theorem Bags.clone {w : World} {pre post : List (Nat × AB)} {b : Nat} {A : AB} {k : Nat} {cs : List Comp} (h : Bags w (pre ++ (b, A) :: post) k cs) :
    Calls Try.prog 10 #[.pointer (some ⟨b, 0, none⟩)] w fun e w' => ∃ b', e = .returned (.pointer (some ⟨b', 0, none⟩)) ∧ Bags w' ((b', A) :: (pre ++ (b, A) :: post)) k cs := by
  obtain ⟨P, Bs, h1, h2, h3⟩ := h.ex
  obtain ⟨p, B, q, rfl, rfl, hB, rfl⟩ := map_split h1
  simp only [Prod.mk.injEq] at hB
  obtain ⟨rfl, rfl⟩ := hB
  have hB := h2 B (by simp)
  have hm := hB.2.small
  rw [B.ab_len] at hm
  have A1 := (h3.perm (List.Perm.cons _ (bags_perm _ _ _ _))).perm (perm12 _ _ _ _)
  refine (Clone_any (B := B) A1 hm).mono ?_
  rintro e w' ⟨b', v, rfl, A'⟩
  refine ⟨b', rfl, P, Bg.mk b' B.r B.l v B.ps :: (p ++ B :: q), by simp [Bg.ab], fun X hX => ?_, ?_⟩
  · rcases List.mem_cons.1 hX with rfl | hX
    · exact ⟨hB.1, hB.2⟩
    · exact h2 X hX
  · have A2 : All (poolC P :: ((Bg.mk b' B.r B.l v B.ps).L ++ (B.L ++ ((p ++ q).flatMap Bg.L ++ cs)))) w' := A'.perm (by
      exact List.perm_append_comm_assoc ((Bg.mk b' B.r B.l v B.ps).L ++ B.L) [poolC P] ((p ++ q).flatMap Bg.L ++ cs))
    rw [List.flatMap_cons, List.append_assoc]
    exact A2.perm (List.Perm.cons _ (List.Perm.append_left _ (bags_perm _ _ _ _).symm))
theorem Bags.into {w w0 : World} {bs : List (Nat × AB)} {k : Nat} {cs : List Comp} (h : Bags w bs k cs) (hin : inC w0 ∈ cs) : Below w0.heap.size w0 w := by
  obtain ⟨P, Bs, e1, e2, A⟩ := h.ex
  exact A.into (by simp [hin])

/-- Steps, one behind the other. -/
def AB.run (A : AB) (xs : List OpV) : AB := xs.foldl (fun a x => a.one x.o) A
theorem AB.run_next (A : AB) (xs : List OpV) {i : Nat} {x : OpV} (h : xs[i]? = some x) : A.run (xs.take (i + 1)) = (A.run (xs.take i)).one x.o := by
  obtain ⟨hi, e⟩ := List.getElem?_eq_some_iff.1 h
  rw [List.take_succ_eq_append_getElem hi, AB.run, List.foldl_append, e]
  rfl
theorem AB.run_all (A : AB) (xs : List OpV) {i : Nat} (h : xs.length ≤ i) : A.run (xs.take i) = A.run xs := by rw [List.take_of_length_le h]
end Go.Proofs.Ytpfpamkbahgkpaa
