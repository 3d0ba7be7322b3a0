import Derived.Test.YtpfpamkbahgkpaaMod
namespace Go.Proofs.Ytpfpamkbahgkpaa
open Go.RowKit
set_option linter.unusedVariables false

theorem All.bagBlk {B : Bg} {cs ds : List Comp} {w : World} (h : All (cs ++ (B.L ++ ds)) w) : w.heap[B.b]? = some (.cells #[.int .i64 B.r, .int .i64 B.l, B.v] 72 (0, 0)) :=
  (h.mem (c := blkC B.b [.int .i64 B.r, .int .i64 B.l, B.v] 72) (by simp)).2.1
theorem All.bagRow {B : Bg} {cs ds : List Comp} {w : World} (h : All (cs ++ (B.L ++ ds)) w) : w.ownsRow 0 49 6 B.v B.ps.length (flatP B.ps) :=
  (h.mem (c := pkC B.v B.ps) (by simp)).2.1

set_option maxRecDepth 1000000 in
theorem Add_end {B : Bg} {f t : Int} {s : Value} {ao : Option Addr} {n c : Nat} {w : World} (hs : s = .slice ao n c) (he : (endB f && endB t) = false) : Calls Try.prog 24 #[B.V, .int .i64 f, .int .i64 t, s] w fun e w' => e = .returned (.int .i64 151) ∧ w' = w := by
  subst hs
  have C := hid (fun k => isEnd_any k w)
  by_cases h1 : endB f = true
  · have h2 : endB t = false := by simpa [h1] using he
    clear he
    go_enter Try.func24, Try.ntmps24
    go_wp2_with (first | (go_at_call 45; refine (C.out _).mono ?_; rintro e w' ⟨rfl, rfl⟩))
    go_ret
    exact ⟨rfl, rfl⟩
  · have h1 : endB f = false := by simpa using h1
    clear he
    go_enter Try.func24, Try.ntmps24
    go_wp2_with (first | (go_at_call 45; refine (C.out _).mono ?_; rintro e w' ⟨rfl, rfl⟩))
    go_ret
    exact ⟨rfl, rfl⟩
set_option maxRecDepth 1000000 in
theorem Add_full {B : Bg} {f t : Int} {s : Value} {ao : Option Addr} {n c : Nat} {cs : List Comp} {w : World} (h : All (B.L ++ cs) w) (hn : B.ps.length ≤ 1024) (hs : s = .slice ao n c) (h1 : endB f = true) (h2 : endB t = true) (hf : fullB B.ps.length B.r = true) : Calls Try.prog 24 #[B.V, .int .i64 f, .int .i64 t, s] w fun e w' => e = .returned (.int .i64 155) ∧ ∃ q, w' = w.drewN q := by
  subst hs
  have C := hid (fun k => isEnd_any k w)
  obtain ⟨ao', c', hv, hc⟩ := h.bagForm
  have hb := All.bagBlk (cs := []) h
  rw [hv] at hb
  have D := hid (full_any hb (by omega))
  rw [hf] at D
  clear h hb hv
  go_enter Try.func24, Try.ntmps24
  go_wp2_with (first | (go_at_call 45; refine (C.out _).mono ?_; rintro e w' ⟨rfl, rfl⟩) | (go_at_call 46; refine D.out.mono ?_; rintro e w' ⟨rfl, q, rfl⟩))
  go_ret
  exact ⟨rfl, q, rfl⟩
theorem perm22 (a b c d : Comp) (X : List Comp) : (a :: b :: c :: d :: X).Perm (c :: d :: a :: b :: X) := by
  have := perm_by 5 [[a], [b], [c], [d], X] [2, 3, 0, 1, 4] rfl (by decide)
  simpa [List.getD] using this

set_option maxHeartbeats 800000 in
set_option maxRecDepth 1000000 in
theorem Add_ok {B : Bg} {f t : Int} {s : Value} {l : List UInt8} {P : List (Value × List UInt8)} {cs : List Comp} {w : World} (h : All (poolC P :: (B.L ++ cs)) w) (hn : B.ps.length ≤ 1024) (h0 : 0 ≤ B.l) (hl : B.l < 4611686018427387904) (hr : Reads w s l) (hll : l.length ≤ 140737488355328) (h1 : endB f = true) (h2 : endB t = true) (hf : fullB B.ps.length B.r = false) :
    Calls Try.prog 24 #[B.V, .int .i64 f, .int .i64 t, s] w fun e w' => e = .returned (.int .i64 0) ∧ ∃ H v, All (poolC ((.slice (some ⟨H, 0, none⟩) l.length l.length, l) :: P) :: ((B.lay ⟨0, f, t, 0, 0, some ⟨H, 0, none⟩, l.length, l⟩ v).L ++ cs)) w' := by
  have C := hid (fun k => isEnd_any k w)
  obtain ⟨ao, c, hs⟩ := hr.form
  subst hs
  obtain ⟨ao', c', hv, hc⟩ := h.tail.bagForm
  have hb := All.bagBlk (cs := [poolC P]) h
  rw [hv] at hb
  have D := hid (full_any hb (by omega))
  rw [hf] at D
  have E1 := hid (fun q => copied_any (h.drewN q) (hr.drewN q) hll)
  have HB := hid (And.intro hn (And.intro h0 hl))
  clear h hb hv hr hn h0 hl hc
  go_enter Try.func24, Try.ntmps24
  go_wp2_with (first | (go_at_call 45; refine (C.out _).mono ?_; rintro e w' ⟨rfl, rfl⟩) | (go_at_call 46; refine D.out.mono ?_; rintro e w' ⟨rfl, q, rfl⟩) | (go_at_call 48; refine (E1.out q).mono ?_; rintro e w1 ⟨H, rfl, A1⟩; have F1 := hid (lay_any (p := ⟨0, f, t, 0, 0, some ⟨H, 0, none⟩, l.length, l⟩) (A1.perm (perm22 _ _ _ _ _)) HB.out.2.1 HB.out.2.2 HB.out.1); clear A1) | (go_at_call 47; refine F1.out.mono ?_; rintro e w2 ⟨rfl, v, A2⟩; have A2 := hid (A2.perm (perm22 _ _ _ _ _)); clear F1))
  go_ret
  exact ⟨rfl, H, v, A2.out.poolAdd⟩

/-- A bag that has become another one, where it lies. -/
def Bg.To (B : Bg) (A : AB) (P : List (Value × List UInt8)) (cs : List Comp) (w : World) : Prop :=
  ∃ (P' : List (Value × List UInt8)) (B' : Bg), B'.b = B.b ∧ B'.ab = A ∧ B'.In P' ∧ (∀ e ∈ P, e ∈ P') ∧ All (poolC P' :: (B'.L ++ cs)) w
theorem Bg.ab_r (B : Bg) : B.ab.r = B.r := rfl
/-- Add. -/
theorem Add_any {B : Bg} {f t : Int} {s : Value} {l : List UInt8} {P : List (Value × List UInt8)} {cs : List Comp} {w : World} (h : All (poolC P :: (B.L ++ cs)) w) (hi : B.In P) {k : Nat} (ho : B.ab.Ok k) (hk : k < 4611686018427387904) (hr : Reads w s l) (hll : l.length ≤ 140737488355328) :
    Calls Try.prog 24 #[B.V, .int .i64 f, .int .i64 t, s] w fun e w' => e = .returned (.int .i64 (B.ab.addE f t)) ∧ B.To (B.ab.add f t l) P cs w' := by
  have hn : B.ps.length ≤ 1024 := by rw [← B.ab_len]; exact ho.small
  obtain ⟨ao, c, hs⟩ := hr.form
  by_cases he : (endB f && endB t) = false
  · have hE : B.ab.addE f t = 151 := by unfold AB.addE; rw [if_pos he]
    refine (Add_end hs he).mono ?_
    rintro e w' ⟨rfl, rfl⟩
    exact ⟨by rw [hE], P, B, rfl, by unfold AB.add; rw [hE]; rfl, hi, fun e h => h, h⟩
  · have he' : endB f = true ∧ endB t = true := by simpa using he
    by_cases hf : fullB B.ps.length B.r = true
    · have hE : B.ab.addE f t = 155 := by unfold AB.addE; rw [if_neg he, B.ab_len, B.ab_r, if_pos hf]
      refine (Add_full h.tail hn hs he'.1 he'.2 hf).mono ?_
      rintro e w' ⟨rfl, q, rfl⟩
      exact ⟨by rw [hE], P, B, rfl, by unfold AB.add; rw [hE]; rfl, hi, fun e h => h, h.drewN q⟩
    · have hE : B.ab.addE f t = 0 := by unfold AB.addE; rw [if_neg he, B.ab_len, B.ab_r, if_neg hf]
      have hl1 := ho.l1
      have hl0 := ho.l0
      refine (Add_ok h hn hl0 (by have : B.ab.l = B.l := rfl; omega) hr hll he'.1 he'.2 (by simpa using hf)).mono ?_
      rintro e w' ⟨rfl, H, v, A⟩
      refine ⟨by rw [hE], _, B.lay _ v, rfl, ?_, ?_, fun e h => List.mem_cons_of_mem _ h, A⟩
      · unfold AB.add
        rw [if_pos hE, Bg.ab_lay]
        rfl
      · intro p hp
        simp only [Bg.lay, List.mem_append, List.mem_singleton] at hp
        rcases hp with hp | rfl
        · exact ⟨List.mem_cons_of_mem _ (hi p hp).1, (hi p hp).2⟩
        · exact ⟨List.mem_cons_self, hll⟩
end Go.Proofs.Ytpfpamkbahgkpaa
