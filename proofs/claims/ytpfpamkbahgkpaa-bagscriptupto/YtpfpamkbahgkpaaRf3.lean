import Derived.Test.YtpfpamkbahgkpaaRf2
namespace Go.Proofs.Ytpfpamkbahgkpaa
open Go.RowKit
set_option linter.unusedVariables false

/-- The document's bag has become another one. -/
def Bg.Tm (B : Bg) (A : AB) (P : List (Value × List UInt8)) (cs : List Comp) (w : World) : Prop :=
  ∃ (P' : List (Value × List UInt8)) (B' : Bg), B'.b = B.b ∧ B'.ab = A ∧ B'.In P' ∧ (∀ e ∈ P, e ∈ P') ∧ All (poolC P' :: (B'.M ++ cs)) w
/-- Is there no room? -/
theorem full_le {n : Nat} {r : Int} (h : (n : Int) ≤ r) : decide (r ≤ (n : Int)) = fullB n r := by
  unfold fullB
  by_cases e : (n : Int) = r
  · rw [decide_eq_true (by omega), decide_eq_true e]
  · rw [decide_eq_false (by omega), decide_eq_false e]

set_option maxRecDepth 1000000 in
theorem rAdd_end {B : Bg} {f t : Int} {s : Value} {ao : Option Addr} {n c : Nat} {w : World} (hs : s = .slice ao n c) (he : (endB f && endB t) = false) : Calls Try.prog 53 #[B.V, .int .i64 f, .int .i64 t, s] w fun e w' => e = .returned (.int .i64 151) ∧ w' = w := by
  subst hs
  have C := hid (fun k => rend_any k w)
  by_cases h1 : endB f = true
  · have h2 : endB t = false := by simpa [h1] using he
    clear he
    go_enter Try.func53, Try.ntmps53
    go_wp2_with (first | (go_at_call 55; refine (C.out _).mono ?_; rintro e w' ⟨rfl, rfl⟩))
    go_ret
    exact ⟨rfl, rfl⟩
  · have h1 : endB f = false := by simpa using h1
    clear he
    go_enter Try.func53, Try.ntmps53
    go_wp2_with (first | (go_at_call 55; refine (C.out _).mono ?_; rintro e w' ⟨rfl, rfl⟩))
    go_ret
    exact ⟨rfl, rfl⟩
set_option maxRecDepth 1000000 in
theorem rAdd_full {B : Bg} {f t : Int} {s : Value} {ao : Option Addr} {n c : Nat} {cs : List Comp} {w : World} (h : All (B.M ++ cs) w) (hn : B.ps.length ≤ 1024) (hs : s = .slice ao n c) (h1 : endB f = true) (h2 : endB t = true) (hf : B.r ≤ (B.ps.length : Int)) : Calls Try.prog 53 #[B.V, .int .i64 f, .int .i64 t, s] w fun e w' => e = .returned (.int .i64 155) ∧ ∃ q, w' = w.drewN q := by
  subst hs
  have C := hid (fun k => rend_any k w)
  obtain ⟨ao', c', hv, hc⟩ := h.docForm
  have hb := All.docBlk (cs := []) h
  rw [hv] at hb
  have t0 : w.cell? ⟨B.b, 0, none⟩ = some (.int .i64 B.r) := by rw [cell_at hb]; rfl
  have t2 : w.cell? ⟨B.b, 2, none⟩ = some (.slice ao' B.ps.length c') := by rw [cell_at hb]; rfl
  clear h hb hv
  obtain ⟨b, r, l, v, ps⟩ := B
  simp only at hn hf hc t0 t2
  show Calls Try.prog 53 #[.pointer (some ⟨b, 0, none⟩), .int .i64 f, .int .i64 t, .slice ao n c] w _
  generalize ps.length = m at *
  go_enter Try.func53, Try.ntmps53
  go_wp2_with (first | (go_at_call 55; refine (C.out _).mono ?_; rintro e w' ⟨rfl, rfl⟩))
  go_region
  all_goals (go_wp2; go_ret; exact ⟨rfl, 1, rfl⟩)
set_option maxHeartbeats 800000 in
set_option maxRecDepth 1000000 in
theorem rAdd_ok {B : Bg} {f t : Int} {s : Value} {l : List UInt8} {ao : Option Addr} {c : Nat} {P : List (Value × List UInt8)} {cs : List Comp} {w : World} (h : All (poolC P :: (B.M ++ cs)) w) (hn : B.ps.length ≤ 1024) (h0 : 0 ≤ B.l) (hl : B.l < 4611686018427387904) (hs : s = .slice ao l.length c) (hr : ∀ (X : List Comp) (W : World), All (X ++ (poolC P :: cs)) W → Reads W s l) (hll : l.length ≤ 140737488355328) (h1 : endB f = true) (h2 : endB t = true) (hf : ¬ B.r ≤ (B.ps.length : Int)) :
    Calls Try.prog 53 #[B.V, .int .i64 f, .int .i64 t, s] w fun e w' => e = .returned (.int .i64 0) ∧ ∃ v a2 c2, All (poolC ((.slice a2 l.length c2, l) :: P) :: ((B.lay ⟨0, f, t, 0, 0, a2, c2, l⟩ v).M ++ cs)) w' := by
  subst hs
  have C := hid (fun k => rend_any k w)
  obtain ⟨ao', c', hv, hc⟩ := h.tail.docForm
  have hb := All.docBlk (cs := [poolC P]) h
  rw [hv] at hb
  have t0 : w.cell? ⟨B.b, 0, none⟩ = some (.int .i64 B.r) := by rw [cell_at hb]; rfl
  have t2 : w.cell? ⟨B.b, 2, none⟩ = some (.slice ao' B.ps.length c') := by rw [cell_at hb]; rfl
  have F := hid (rlay_any (p := ⟨0, f, t, 0, 0, ao, c, l⟩) h.drew hr hll h0 hl hn)
  clear h hb hv hr
  obtain ⟨b, r, la, v, ps⟩ := B
  simp only at hn hf hc t0 t2
  have F : Hid (Calls Try.prog 54 #[.pointer (some ⟨b, 0, none⟩), .agg #[.int .i64 0, .int .i64 f, .int .i64 t, .int .i64 0, .int .i64 0, .slice ao l.length c]] w.drew _) := F
  show Calls Try.prog 53 #[.pointer (some ⟨b, 0, none⟩), .int .i64 f, .int .i64 t, .slice ao l.length c] w _
  obtain ⟨m, hm⟩ : ∃ m, Hid (m = ps.length) := ⟨_, hid rfl⟩
  rw [← hm.out] at hn hf hc t2
  go_enter Try.func53, Try.ntmps53
  go_wp2_with (first | (go_at_call 55; refine (C.out _).mono ?_; rintro e w' ⟨rfl, rfl⟩))
  go_region
  all_goals (go_wp2_with (first | (go_at_call 54; refine F.out.mono ?_; rintro e w2 ⟨rfl, v2, a2, c2, A2⟩; have A2 := hid A2)))
  all_goals (go_ret; exact ⟨rfl, v2, a2, c2, A2.out⟩)
/-- Add, by the document. -/
theorem rAdd_any {B : Bg} {f t : Int} {s : Value} {l : List UInt8} {ao : Option Addr} {c : Nat} {P : List (Value × List UInt8)} {cs : List Comp} {w : World} (h : All (poolC P :: (B.M ++ cs)) w) (hi : B.In P) {k : Nat} (ho : B.ab.Ok k) (hk : k < 4611686018427387904) (hs : s = .slice ao l.length c) (hr : ∀ (X : List Comp) (W : World), All (X ++ (poolC P :: cs)) W → Reads W s l) (hll : l.length ≤ 140737488355328) :
    Calls Try.prog 53 #[B.V, .int .i64 f, .int .i64 t, s] w fun e w' => e = .returned (.int .i64 (B.ab.addE f t)) ∧ B.Tm (B.ab.add f t l) P cs w' := by
  have hn : B.ps.length ≤ 1024 := by rw [← B.ab_len]; exact ho.small
  have hlen : (B.ps.length : Int) ≤ B.r := by have := ho.len; rw [B.ab_len, B.ab_r] at this; exact this
  have hfl := full_le hlen
  by_cases he : (endB f && endB t) = false
  · have hE : B.ab.addE f t = 151 := by unfold AB.addE; rw [if_pos he]
    refine (rAdd_end hs he).mono ?_
    rintro e w' ⟨rfl, rfl⟩
    exact ⟨by rw [hE], P, B, rfl, by unfold AB.add; rw [hE]; rfl, hi, fun e h => h, h⟩
  · have he' : endB f = true ∧ endB t = true := by simpa using he
    by_cases hf : fullB B.ps.length B.r = true
    · have hE : B.ab.addE f t = 155 := by unfold AB.addE; rw [if_neg he, B.ab_len, B.ab_r, if_pos hf]
      refine (rAdd_full h.tail hn hs he'.1 he'.2 (of_decide_eq_true (hfl.trans hf))).mono ?_
      rintro e w' ⟨rfl, q, rfl⟩
      exact ⟨by rw [hE], P, B, rfl, by unfold AB.add; rw [hE]; rfl, hi, fun e h => h, h.drewN q⟩
    · have hE : B.ab.addE f t = 0 := by unfold AB.addE; rw [if_neg he, B.ab_len, B.ab_r, if_neg hf]
      have hl1 := ho.l1
      have hl0 := ho.l0
      refine (rAdd_ok h hn hl0 (by have : B.ab.l = B.l := rfl; omega) hs hr hll he'.1 he'.2 (of_decide_eq_false (hfl.trans (by simpa using hf)))).mono ?_
      rintro e w' ⟨rfl, v, a2, c2, A⟩
      refine ⟨by rw [hE], _, B.lay _ v, rfl, ?_, ?_, fun e h => List.mem_cons_of_mem _ h, A⟩
      · unfold AB.add
        rw [if_pos hE, Bg.ab_lay]
        rfl
      · intro p hp
        simp only [Bg.lay, List.mem_append, List.mem_singleton] at hp
        rcases hp with hp | rfl
        · exact ⟨List.mem_cons_of_mem _ (hi p hp).1, (hi p hp).2⟩
        · exact ⟨List.mem_cons_self, hll⟩
end Go.Proofs.Ytpfpamkbahgkpaa
