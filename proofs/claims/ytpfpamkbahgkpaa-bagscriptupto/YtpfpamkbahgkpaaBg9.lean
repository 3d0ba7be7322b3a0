import Derived.Test.YtpfpamkbahgkpaaBg8
namespace Go.Proofs.Ytpfpamkbahgkpaa
open Go.RowKit
set_option linter.unusedVariables false

theorem All.inReads {B : Bg} {P : List (Value × List UInt8)} {cs : List Comp} {w : World} (h : All cs w) (hP : poolC P ∈ cs) (hi : B.In P) {p : Pk} (hp : p ∈ B.ps) : Reads w p.D p.bs := h.poolReads hP (hi p hp).1
/-- Flip. -/
theorem Flip_any {B : Bg} {j x y : Int} {P : List (Value × List UInt8)} {cs : List Comp} {w : World} (h : All (poolC P :: (B.L ++ cs)) w) (hi : B.In P) {k : Nat} (ho : B.ab.Ok k) :
    Calls Try.prog 25 #[B.V, .int .i64 j, .int .i64 x, .int .i64 y] w fun e w' => e = .returned (.int .i64 (B.ab.flipE j x y)) ∧ B.To (B.ab.flip j x y) P cs w' := by
  have hn : B.ps.length ≤ 1024 := by rw [← B.ab_len]; exact ho.small
  have stay : ∀ w', w' = w → B.ab.flipE j x y ≠ 0 → B.To (B.ab.flip j x y) P cs w' := by
    rintro w' rfl hE
    exact ⟨P, B, rfl, by unfold AB.flip; rw [if_neg hE], hi, fun e h => h, h⟩
  by_cases hh : hasB j B.ps.length = false
  · have hE : B.ab.flipE j x y = 152 := by unfold AB.flipE; rw [B.ab_len, if_pos hh]
    refine (Flip_no (h.perm (perm12 _ _ _ _)) hn hh).mono ?_
    rintro e w' ⟨rfl, hw⟩
    exact ⟨by rw [hE], stay w' hw (by omega)⟩
  · have hh' : hasB j B.ps.length = true := by simpa using hh
    obtain ⟨p, hp, hm, hat, hlt, hj⟩ := Bg.at_ps hh'
    generalize hjj : j.toNat = i at *
    subst hj
    have hpl := (hi p hm).2
    have hbs : (B.ab.at (i : Int)).bs = p.bs := by rw [hat]; rfl
    have hu : (B.ab.at (i : Int)).u = p.u := by rw [hat]; rfl
    by_cases hx : hasB x p.bs.length = false
    · have hE : B.ab.flipE i x y = 153 := by unfold AB.flipE; rw [B.ab_len, if_neg hh, hbs, if_pos hx]
      refine (Flip_place (h.perm (perm12 _ _ _ _)) hn hp hpl hx).mono ?_
      rintro e w' ⟨rfl, hw⟩
      exact ⟨by rw [hE], stay w' hw (by omega)⟩
    · have hx2 : hasB x p.bs.length = true := by simpa using hx
      have hx' : 0 ≤ x ∧ x < p.bs.length := of_decide_eq_true hx2
      obtain ⟨X, rfl⟩ : ∃ X : Nat, x = (X : Int) := ⟨x.toNat, by omega⟩
      by_cases hy : y < 1 ∨ 255 < y ∨ (p.u ≠ 0 ∧ p.u ≠ X + 1)
      · have hE : B.ab.flipE i X y = 154 := by unfold AB.flipE; rw [B.ab_len, if_neg hh, hbs, if_neg hx, hu, if_pos hy]
        refine (Flip_same (h.perm (perm12 _ _ _ _)) hn hp hpl (by omega) hy).mono ?_
        rintro e w' ⟨rfl, hw⟩
        exact ⟨by rw [hE], stay w' hw (by omega)⟩
      · have hE : B.ab.flipE i X y = 0 := by unfold AB.flipE; rw [B.ab_len, if_neg hh, hbs, if_neg hx, hu, if_neg hy]
        obtain ⟨Y, rfl⟩ : ∃ Y : Nat, y = (Y : Int) := ⟨y.toNat, by omega⟩
        refine (Flip_ok h hn hp (h.inReads (by simp) hi hm) hpl (by omega) (by omega) (by omega) (by omega)).mono ?_
        rintro e w' ⟨rfl, H, A⟩
        refine ⟨by rw [hE], _, Bg.mk B.b B.r B.l B.v (B.ps.set i (p.flip H X Y)), rfl, ?_, ?_, fun e h => List.mem_cons_of_mem _ h, A⟩
        · unfold AB.flip
          rw [if_pos hE, hat]
          simp only [Bg.ab, List.map_set, Pk.flip_ap, Int.toNat_natCast]
        · intro q hq
          rcases List.mem_or_eq_of_mem_set hq with hq | rfl
          · exact ⟨List.mem_cons_of_mem _ (hi q hq).1, (hi q hq).2⟩
          · exact ⟨List.mem_cons_self, by simpa [Pk.flip] using hpl⟩

def Pk.old (p : Pk) : Pk := { p with a := p.a + 1 }
theorem take_map_set {α : Type} (f : α → α) (l : List α) (i : Nat) (x : α) (hx : l[i]? = some x) : (((l.take i).map f ++ l.drop i).set i (f x)) = (l.take (i + 1)).map f ++ l.drop (i + 1) := by
  have hi := (List.getElem?_eq_some_iff.1 hx).1
  have e : l[i] = x := by rw [List.getElem?_eq_getElem hi] at hx; simpa using hx
  rw [List.drop_eq_getElem_cons hi, List.set_append_right _ _ (by simp; omega)]
  simp only [List.length_map, List.length_take, Nat.min_eq_left (Nat.le_of_lt hi), Nat.sub_self, List.set_cons_zero]
  rw [List.take_succ_eq_append_getElem hi, List.map_append, e]
  simp

set_option maxHeartbeats 1600000 in
set_option maxRecDepth 1000000 in
theorem Older_ok {B : Bg} {cs : List Comp} {w : World} (h : All (B.L ++ cs) w) (hn : B.ps.length ≤ 1024) (ha : ∀ p ∈ B.ps, 0 ≤ p.a ∧ p.a < 4611686018427387904) :
    Calls Try.prog 38 #[B.V] w fun e w' => e = .returned (.tuple #[]) ∧ All ((Bg.mk B.b B.r B.l B.v (B.ps.map Pk.old)).L ++ cs) w' := by
  obtain ⟨ao, c, hv, hc⟩ := h.bagForm
  obtain ⟨b, r, l, v, ps⟩ := B
  simp only at hv hc hn ha
  subst hv
  obtain ⟨n, hnn⟩ : ∃ n, Hid (n = ps.length) := ⟨_, hid rfl⟩
  have A0 : Hid (All (blkC b [.int .i64 r, .int .i64 l, .slice ao n c] 72 :: rowC 49 6 (.slice ao n c) n (flatP ((ps.take 0).map Pk.old ++ ps.drop 0)) :: cs) w) := hid (by rw [hnn.out]; simpa using h)
  have t2 : w.cell? ⟨b, 2, none⟩ = some (.slice ao n c) := by rw [cell_at A0.out.1.2.1]; rfl
  have hnl : n ≤ 1024 := by rw [hnn.out]; exact hn
  have HA := hid ha
  clear h hn ha hc
  show Calls Try.prog 38 #[.pointer (some ⟨b, 0, none⟩)] w _
  go_enter Try.func38, Try.ntmps38
  go_wp2
  go_loopw [8] (fun iv wr => ∃ (i : Nat), i ≤ n ∧ iv = .int .i64 (i : Int) ∧ Hid (All (blkC b [.int .i64 r, .int .i64 l, .slice ao n c] 72 :: rowC 49 6 (.slice ao n c) n (flatP ((ps.take i).map Pk.old ++ ps.drop i)) :: cs) wr)) (fun iv _ => n - (intOf iv).toNat)
  case atStart => exact ⟨0, by omega, rfl, A0⟩
  case round =>
    clear A0 t2
    obtain ⟨i, hi, rfl, A⟩ := hrel
    have t2 : wr.cell? ⟨b, 2, none⟩ = some (.slice ao n c) := by rw [cell_at A.out.1.2.1]; rfl
    by_cases hlt : i < n
    · have hlt' := hlt
      rw [hnn.out] at hlt'
      obtain ⟨p, hp⟩ : ∃ p, ps[i]? = some p := ⟨_, List.getElem?_eq_getElem hlt'⟩
      have hpa := HA.out p (List.mem_of_getElem? hp)
      have hq : ((ps.take i).map Pk.old ++ ps.drop i)[i]? = some p := by
        rw [List.getElem?_append_right (by simp; omega)]
        simp only [List.length_map, List.length_take, Nat.min_eq_left (Nat.le_of_lt hlt'), Nat.sub_self, List.getElem?_drop, Nat.add_zero]
        exact hp
      have hlen : ((ps.take i).map Pk.old ++ ps.drop i).length = n := by rw [hnn.out]; simp; omega
      obtain ⟨g, c2, hv2, hg, hrg, hfz⟩ := row_at (by rw [hlen]; exact A.out.tail.1.2.1) hq
      simp only [Value.slice.injEq] at hv2
      obtain ⟨rfl, -, -⟩ := hv2
      obtain ⟨s1, s2, s3, s4, s5, s6⟩ := pkAt_of hrg
      have A2 := (A.out.swap.rowSet (i * 6 + 3) (.int .i64 (p.a + 1))).swap
      rw [flatP_set1 (p' := p.old) hq (by omega) (by simp [Pk.cells, Pk.old]), take_map_set Pk.old ps i p hp] at A2
      have A2 := hid A2
      clear A hq hlen hrg hp hlt'
      have hii : (i : Int) < (n : Int) := by omega
      go_wp2
      go_roundw
      case rel => exact ⟨i + 1, by omega, by go_num, A2⟩
      case measure => simp [intOf]; omega
    · have hin : i = n := by omega
      have A3 := A.out
      rw [hin, hnn.out] at A3
      have A3 := hid A3
      clear A hin
      go_wp2
      go_end0
      refine ⟨rfl, ?_⟩
      have A4 := A3.out
      simp only [List.take_length, List.drop_length, List.append_nil] at A4
      simpa [Bg.L, pkC] using A4
end Go.Proofs.Ytpfpamkbahgkpaa
