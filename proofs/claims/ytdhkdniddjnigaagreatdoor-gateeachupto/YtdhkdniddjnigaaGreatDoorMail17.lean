import Derived.Test.YtdhkdniddjnigaaGreatDoorMail16
namespace Go.Proofs.YtdhkdniddjnigaaGreatDoor
open Go.RowKit
set_option linter.unusedVariables false

/-- A sheet. -/
structure Sh where
  n : Int
  a : Int
  da : Option Addr
  dl : Nat
  dp : Nat
def Sh.cells (s : Sh) : List Value := [.int .i64 s.n, .int .i64 s.a, .slice s.da s.dl s.dp]
/-- Sheets that are read. -/
def Shs (w : World) (ao : Option Addr) (l : List Sh) : Prop := ∀ (i : Nat) (x : Sh), l[i]? = some x → ∃ g o, ao = some ⟨g, o, none⟩ ∧ g < w.heap.size ∧ ∀ j u, x.cells[j]? = some u → w.cell? ⟨g, o + i * 3 + j, none⟩ = some u
theorem Shs.later {w w' : World} {ao : Option Addr} {l : List Sh} (h : Shs w ao l) (hb : Below w.heap.size w w') : Shs w' ao l := by
  intro i x hx
  obtain ⟨g, o, ea, hg, hc⟩ := h i x hx
  exact ⟨g, o, ea, Nat.lt_of_lt_of_le hg hb.size, fun j u hu => cell_under hb hg (hc j u hu)⟩
/-- May sheets be, behind the last? -/
def shsB (f b : Int) : Int → List Sh → Bool
  | _, [] => true
  | p, s :: l => decide (p < s.n ∧ s.n ≤ 15 ∧ f < s.a ∧ s.a ≤ b ∧ (s.dl : Int) ≤ 2304) && shsB f b s.n l
set_option maxHeartbeats 1600000 in
set_option maxRecDepth 1000000 in
theorem sheets_any {w : World} (f b : Int) {sa : Option Addr} {l : List Sh} (h : Shs w sa l) (sp : Nat) (xa : Option Addr) (xl xp : Nat) (hl : l.length ≤ 9223372036854775807) : Calls Tryz.prog 198 #[cgV f b sa l.length sp xa xl xp] w fun e w' => e = .returned (.bool (shsB f b (-1) l)) ∧ Below w.heap.size w w' := by
  have HE := hid h
  clear h
  go_enter Tryz.func198, Tryz.ntmps198
  go_wp2
  have q0 : Hid ((w.alloc (.cells #[.int .i64 f, .int .i64 b, .slice sa l.length sp, .slice xa xl xp] 49)).cell? ⟨w.heap.size, 0, none⟩ = some (.int .i64 f)) := hid (by simp)
  have q1 : Hid ((w.alloc (.cells #[.int .i64 f, .int .i64 b, .slice sa l.length sp, .slice xa xl xp] 49)).cell? ⟨w.heap.size, 1, none⟩ = some (.int .i64 b)) := hid (by simp)
  have bw := hid (ba w (.cells #[.int .i64 f, .int .i64 b, .slice sa l.length sp, .slice xa xl xp] 49))
  have ws : Hid ((w.alloc (.cells #[.int .i64 f, .int .i64 b, .slice sa l.length sp, .slice xa xl xp] 49)).heap.size = w.heap.size + 1) := hid (by simp)
  obtain ⟨K, hK⟩ : ∃ K, Hid (K = w.heap.size) := ⟨_, hid rfl⟩
  rw [← hK.out] at q0 q1 ⊢
  generalize w.alloc (.cells #[.int .i64 f, .int .i64 b, .slice sa l.length sp, .slice xa xl xp] 49) = w0 at q0 q1 bw ws ⊢
  go_loopw [3, 9] (fun lv iv wr => ∃ (k : Nat) (p : Int), lv = .int .i64 p ∧ iv = .int .i64 (k : Int) ∧ k ≤ l.length ∧ Hid (shsB f b (-1) l = shsB f b p (l.drop k)) ∧ Hid (Below w0.heap.size w0 wr)) (fun _ iv _ => l.length - (intOf iv).toNat)
  case atStart => exact ⟨0, -1, rfl, rfl, Nat.zero_le _, hid rfl, hid (Below.refl _ _)⟩
  case round =>
    obtain ⟨k, p, rfl, rfl, hk, hS, hB⟩ := hrel
    have BW : Hid (∀ W, Below w0.heap.size w0 W → Below w.heap.size w W) := hid (fun W hW => bw.out.trans (hW.mono bw.out.size))
    by_cases hlt : k < l.length
    · obtain ⟨x, hx⟩ : ∃ x, Hid (l[k]'hlt = x) := ⟨_, hid rfl⟩
      obtain ⟨g, o, ea, hg, hc⟩ := ((HE.out.later bw.out).later hB.out) k x (by rw [List.getElem?_eq_getElem hlt, hx.out])
      subst ea
      have el : decide ((k : Int) < (l.length : Int)) = true := by simpa using hlt
      have r0 : wr.cell? ⟨g, o + k * 3, none⟩ = some (.int .i64 x.n) := hc 0 _ rfl
      have r1 : wr.cell? ⟨g, o + k * 3 + 1, none⟩ = some (.int .i64 x.a) := hc 1 _ rfl
      have r2 : wr.cell? ⟨g, o + k * 3 + 2, none⟩ = some (.slice x.da x.dl x.dp) := hc 2 _ rfl
      have t0 : wr.cell? ⟨K, 0, none⟩ = some (.int .i64 f) := cell_under hB.out (by rw [ws.out]; have := hK.out; show K < _; omega) q0.out
      have t1 : wr.cell? ⟨K, 1, none⟩ = some (.int .i64 b) := cell_under hB.out (by rw [ws.out]; have := hK.out; show K < _; omega) q1.out
      have hKw : K < wr.heap.size := by have := hK.out; have := ws.out; have := hB.out.size; omega
      have BA : Hid (∀ ob, Below w0.heap.size w0 (wr.alloc ob)) := hid (fun ob => hB.out.trans ((ba wr ob).mono hB.out.size))
      have ST : Hid (shsB f b (-1) l = (decide (p < x.n ∧ x.n ≤ 15 ∧ f < x.a ∧ x.a ≤ b ∧ (x.dl : Int) ≤ 2304) && shsB f b x.n (l.drop (k + 1)))) := hid (by rw [hS.out, List.drop_eq_getElem_cons hlt, hx.out]; rfl)
      clear hc hB hS
      by_cases c0 : x.n ≤ p
      · have F : Hid (shsB f b (-1) l = false) := hid (by rw [ST.out, decide_eq_false (by omega)]; rfl)
        have e0 : decide (x.n ≤ p) = true := by simpa using c0
        clear c0
        go_wp2
        go_ret
        exact ⟨by rw [F.out]; rfl, BW.out _ (BA.out _)⟩
      have e0 : decide (x.n ≤ p) = false := by simpa using c0
      by_cases c1 : 16 ≤ x.n
      · have F : Hid (shsB f b (-1) l = false) := hid (by rw [ST.out, decide_eq_false (by omega)]; rfl)
        have e1 : decide (16 ≤ x.n) = true := by simpa using c1
        clear c0 c1
        go_wp2
        go_ret
        exact ⟨by rw [F.out]; rfl, BW.out _ (BA.out _)⟩
      have e1 : decide (16 ≤ x.n) = false := by simpa using c1
      by_cases c2 : x.a ≤ f
      · have F : Hid (shsB f b (-1) l = false) := hid (by rw [ST.out, decide_eq_false (by omega)]; rfl)
        have e2 : decide (x.a ≤ f) = true := by simpa using c2
        clear c0 c1 c2
        go_wp2
        go_ret
        exact ⟨by rw [F.out]; rfl, BW.out _ (BA.out _)⟩
      have e2 : decide (x.a ≤ f) = false := by simpa using c2
      by_cases c3 : b < x.a
      · have F : Hid (shsB f b (-1) l = false) := hid (by rw [ST.out, decide_eq_false (by omega)]; rfl)
        have e3 : decide (b < x.a) = true := by simpa using c3
        clear c0 c1 c2 c3
        go_wp2
        go_ret
        exact ⟨by rw [F.out]; rfl, BW.out _ (BA.out _)⟩
      have e3 : decide (b < x.a) = false := by simpa using c3
      by_cases c4 : (2304 : Int) < (x.dl : Int)
      · have F : Hid (shsB f b (-1) l = false) := hid (by rw [ST.out, decide_eq_false (by omega)]; rfl)
        have e4 : decide ((2304 : Int) < (x.dl : Int)) = true := by simpa using c4
        clear c0 c1 c2 c3 c4
        go_wp2
        go_ret
        exact ⟨by rw [F.out]; rfl, BW.out _ (BA.out _)⟩
      have e4 : decide ((2304 : Int) < (x.dl : Int)) = false := by simpa using c4
      have F : Hid (shsB f b (-1) l = shsB f b x.n (l.drop (k + 1))) := hid (by rw [ST.out, decide_eq_true (by omega), Bool.true_and])
      clear c0 c1 c2 c3 c4
      go_wp2
      go_roundw
      case rel => exact ⟨k + 1, x.n, rfl, by go_num, by omega, F, hid (BA.out _)⟩
      case measure => simp [intOf]; omega
    · have el : decide ((k : Int) < (l.length : Int)) = false := by simp; omega
      have F : Hid (shsB f b (-1) l = true) := hid (by rw [hS.out, List.drop_of_length_le (by omega)]; rfl)
      go_wp2
      go_ret
      exact ⟨by rw [F.out]; rfl, BW.out _ hB.out⟩
end Go.Proofs.YtdhkdniddjnigaaGreatDoor
