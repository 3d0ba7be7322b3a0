import Derived.Test.YtdhkdniddjnigaaGreatDoorJ10
namespace Go.Proofs.YtdhkdniddjnigaaGreatDoor
open Go.RowKit
set_option linter.unusedVariables false

/-- An entry. -/
structure Ent where
  c : Int
  n : Int
  k : Int
  nm : ByteArray
  tx : ByteArray
  m : Int
  q : Int
def Ent.cells (e : Ent) : List Value := [.int .i64 e.c, .int .i64 e.n, .int .i64 e.k, .string e.nm, .string e.tx, .int .i64 e.m, .int .i64 e.q]
abbrev Ent.V (e : Ent) : Value := .agg #[.int .i64 e.c, .int .i64 e.n, .int .i64 e.k, .string e.nm, .string e.tx, .int .i64 e.m, .int .i64 e.q]
/-- Entries that are read. -/
def Ents (w : World) (ao : Option Addr) (l : List Ent) : Prop := ∀ (i : Nat) (x : Ent), l[i]? = some x → ∃ g o, ao = some ⟨g, o, none⟩ ∧ g < w.heap.size ∧ ∀ j u, x.cells[j]? = some u → w.cell? ⟨g, o + i * 7 + j, none⟩ = some u
theorem Ents.later {w w' : World} {ao : Option Addr} {l : List Ent} (h : Ents w ao l) (hb : Below w.heap.size w w') : Ents w' ao l := by
  intro i x hx
  obtain ⟨g, o, ea, hg, hc⟩ := h i x hx
  exact ⟨g, o, ea, Nat.lt_of_lt_of_le hg hb.size, fun j u hu => cell_under hb hg (hc j u hu)⟩
/-- May an entry be? -/
def entB (x : Ent) : Bool := decide (0 ≤ x.c ∧ x.c ≤ 7 ∧ 1 ≤ x.n ∧ x.n ≤ 1099511627776 ∧ chkA x.k x.nm.size x.tx.size x.m x.q = 0)
set_option maxHeartbeats 1600000 in
set_option maxRecDepth 1000000 in
theorem ents_any {w : World} (hT : Tab w) {ao : Option Addr} {l : List Ent} (h : Ents w ao l) (cp : Nat) (hl : l.length ≤ 9223372036854775807) : Calls Tryz.prog 199 #[.slice ao l.length cp] w fun e w' => e = .returned (.bool (l.all entB)) ∧ Below w.heap.size w w' := by
  have HE := hid h
  have HT := hid hT
  clear h hT
  go_enter Tryz.func199, Tryz.ntmps199
  go_wp2
  go_loopw [7] (fun iv wr => ∃ k : Nat, iv = .int .i64 (k : Int) ∧ k ≤ l.length ∧ Hid (∀ j (hj : j < k) (hl : j < l.length), entB l[j] = true) ∧ Hid (Below w.heap.size w wr)) (fun iv _ => l.length - (intOf iv).toNat)
  case atStart => exact ⟨0, rfl, Nat.zero_le _, fun j hj => absurd hj (by omega), hid (Below.refl _ _)⟩
  case round =>
    obtain ⟨k, rfl, hk, hbef, hB⟩ := hrel
    by_cases hlt : k < l.length
    · obtain ⟨x, hx⟩ : ∃ x, Hid (l[k]'hlt = x) := ⟨_, hid rfl⟩
      obtain ⟨g, o, ea, hg, hc⟩ := (HE.out.later hB.out) k x (by rw [List.getElem?_eq_getElem hlt, hx.out])
      subst ea
      have el : decide ((k : Int) < (l.length : Int)) = true := by simpa using hlt
      have r0 : wr.cell? ⟨g, o + k * 7, none⟩ = some (.int .i64 x.c) := hc 0 _ rfl
      have r1 : wr.cell? ⟨g, o + k * 7 + 1, none⟩ = some (.int .i64 x.n) := hc 1 _ rfl
      have r2 : wr.cell? ⟨g, o + k * 7 + 2, none⟩ = some (.int .i64 x.k) := hc 2 _ rfl
      have r3 : wr.cell? ⟨g, o + k * 7 + 3, none⟩ = some (.string x.nm) := hc 3 _ rfl
      have r4 : wr.cell? ⟨g, o + k * 7 + 4, none⟩ = some (.string x.tx) := hc 4 _ rfl
      have r5 : wr.cell? ⟨g, o + k * 7 + 5, none⟩ = some (.int .i64 x.m) := hc 5 _ rfl
      have r6 : wr.cell? ⟨g, o + k * 7 + 6, none⟩ = some (.int .i64 x.q) := hc 6 _ rfl
      have BA : Hid (∀ ob, Below w.heap.size w (wr.alloc ob)) := hid (fun ob => hB.out.trans ((ba wr ob).mono hB.out.size))
      have CK : Hid (∀ W, Below w.heap.size w W → Calls Tryz.prog 169 #[opV x.k x.nm x.tx x.m x.q] W fun e w' => e = .returned (.int .i64 (chkA x.k x.nm.size x.tx.size x.m x.q)) ∧ Below w.heap.size w w') := hid (fun W hW => by
        refine (check_any (HT.out.below hW) x.k x.nm x.tx x.m x.q).mono ?_
        rintro e w' ⟨rfl, hb⟩
        exact ⟨rfl, hW.trans (hb.mono hW.size)⟩)
      have NO : Hid (entB x = false → l.all entB = false) := hid (fun hf => by
        rw [List.all_eq_false]
        exact ⟨x, by rw [← hx.out]; exact List.getElem_mem hlt, by simp [hf]⟩)
      clear hc hB
      by_cases c0 : x.c < 0
      · have F := hid (NO.out (by simp only [entB, decide_eq_false_iff_not]; omega))
        have e0 : decide (x.c < 0) = true := by simpa using c0
        clear c0
        go_wp2
        go_ret
        exact ⟨by rw [F.out]; rfl, BA.out _⟩
      have e0 : decide (x.c < 0) = false := by simpa using c0
      by_cases c1 : 8 ≤ x.c
      · have F := hid (NO.out (by simp only [entB, decide_eq_false_iff_not]; omega))
        have e1 : decide (8 ≤ x.c) = true := by simpa using c1
        clear c0 c1
        go_wp2
        go_ret
        exact ⟨by rw [F.out]; rfl, BA.out _⟩
      have e1 : decide (8 ≤ x.c) = false := by simpa using c1
      by_cases c2 : x.n < 1
      · have F := hid (NO.out (by simp only [entB, decide_eq_false_iff_not]; omega))
        have e2 : decide (x.n < 1) = true := by simpa using c2
        clear c0 c1 c2
        go_wp2
        go_ret
        exact ⟨by rw [F.out]; rfl, BA.out _⟩
      have e2 : decide (x.n < 1) = false := by simpa using c2
      by_cases c3 : 1099511627776 < x.n
      · have F := hid (NO.out (by simp only [entB, decide_eq_false_iff_not]; omega))
        have e3 : decide (1099511627776 < x.n) = true := by simpa using c3
        clear c0 c1 c2 c3
        go_wp2
        go_ret
        exact ⟨by rw [F.out]; rfl, BA.out _⟩
      have e3 : decide (1099511627776 < x.n) = false := by simpa using c3
      have Y : Hid (chkA x.k x.nm.size x.tx.size x.m x.q = 0 → entB x = true) := hid (fun h => by simp only [entB, decide_eq_true_eq]; omega)
      have N : Hid (chkA x.k x.nm.size x.tx.size x.m x.q ≠ 0 → entB x = false) := hid (fun h => by simp only [entB, decide_eq_false_iff_not]; omega)
      clear c0 c1 c2 c3
      generalize chkA x.k x.nm.size x.tx.size x.m x.q = z at CK Y N
      go_wp2_with (go_at_call 169; refine (CK.out _ (BA.out _)).mono ?_; rintro e w1 ⟨rfl, hB1⟩; have B1 := hid hB1; clear hB1; by_cases hz : (z != 0) = true)
      · have F := hid (NO.out (N.out (by simpa using hz)))
        go_wp2
        go_ret
        exact ⟨by rw [F.out]; rfl, B1.out⟩
      · have hz' : (z != 0) = false := by simpa using hz
        have F := hid (Y.out (by simpa using hz))
        clear hz
        go_wp2
        go_roundw
        case rel => exact ⟨k + 1, by go_num, by omega, fun j hj hl => by rcases Nat.lt_succ_iff_lt_or_eq.1 hj with h | h; exact hbef.out j h hl; subst h; rw [hx.out]; exact F.out, B1⟩
        case measure => simp [intOf]; omega
    · have el : decide ((k : Int) < (l.length : Int)) = false := by simp; omega
      go_wp2
      go_ret
      exact ⟨by rw [List.all_eq_true.2]; rfl; intro y hy; obtain ⟨j, hj, rfl⟩ := List.getElem_of_mem hy; exact hbef.out j (by omega) hj, hB.out⟩
end Go.Proofs.YtdhkdniddjnigaaGreatDoor

namespace Go.Proofs.YtdhkdniddjnigaaGreatDoor
open Go.RowKit
set_option linter.unusedVariables false

/-- A sheet. -/
structure Sh where
  n : Int
  a : Int
  da : Option Addr
  dl : Nat
  dp : Nat
def Sh.cells (s : Sh) : List Value := [.int .i64 s.n, .int .i64 s.a, .slice s.da s.dl s.dp]
/-- Sheets that are read. -/
def Shs (w : World) (ao : Option Addr) (l : List Sh) : Prop := ∀ (i : Nat) (x : Sh), l[i]? = some x → ∃ g o, ao = some ⟨g, o, none⟩ ∧ g < w.heap.size ∧ ∀ j u, x.cells[j]? = some u → w.cell? ⟨g, o + i * 3 + j, none⟩ = some u
theorem Shs.later {w w' : World} {ao : Option Addr} {l : List Sh} (h : Shs w ao l) (hb : Below w.heap.size w w') : Shs w' ao l := by
  intro i x hx
  obtain ⟨g, o, ea, hg, hc⟩ := h i x hx
  exact ⟨g, o, ea, Nat.lt_of_lt_of_le hg hb.size, fun j u hu => cell_under hb hg (hc j u hu)⟩
/-- May sheets be, behind the last? -/
def shsB (f b : Int) : Int → List Sh → Bool
  | _, [] => true
  | p, s :: l => decide (p < s.n ∧ s.n ≤ 15 ∧ f < s.a ∧ s.a ≤ b ∧ (s.dl : Int) ≤ 2304) && shsB f b s.n l
set_option maxHeartbeats 1600000 in
set_option maxRecDepth 1000000 in
theorem sheets_any {w : World} (f b : Int) {sa : Option Addr} {l : List Sh} (h : Shs w sa l) (sp : Nat) (xa : Option Addr) (xl xp : Nat) (hl : l.length ≤ 9223372036854775807) : Calls Tryz.prog 198 #[cgV f b sa l.length sp xa xl xp] w fun e w' => e = .returned (.bool (shsB f b (-1) l)) ∧ Below w.heap.size w w' := by
  have HE := hid h
  clear h
  go_enter Tryz.func198, Tryz.ntmps198
  go_wp2
  have q0 : Hid ((w.alloc (.cells #[.int .i64 f, .int .i64 b, .slice sa l.length sp, .slice xa xl xp] 49)).cell? ⟨w.heap.size, 0, none⟩ = some (.int .i64 f)) := hid (by simp)
  have q1 : Hid ((w.alloc (.cells #[.int .i64 f, .int .i64 b, .slice sa l.length sp, .slice xa xl xp] 49)).cell? ⟨w.heap.size, 1, none⟩ = some (.int .i64 b)) := hid (by simp)
  have bw := hid (ba w (.cells #[.int .i64 f, .int .i64 b, .slice sa l.length sp, .slice xa xl xp] 49))
  have ws : Hid ((w.alloc (.cells #[.int .i64 f, .int .i64 b, .slice sa l.length sp, .slice xa xl xp] 49)).heap.size = w.heap.size + 1) := hid (by simp)
  obtain ⟨K, hK⟩ : ∃ K, Hid (K = w.heap.size) := ⟨_, hid rfl⟩
  rw [← hK.out] at q0 q1 ⊢
  generalize w.alloc (.cells #[.int .i64 f, .int .i64 b, .slice sa l.length sp, .slice xa xl xp] 49) = w0 at q0 q1 bw ws ⊢
  go_loopw [3, 9] (fun lv iv wr => ∃ (k : Nat) (p : Int), lv = .int .i64 p ∧ iv = .int .i64 (k : Int) ∧ k ≤ l.length ∧ Hid (shsB f b (-1) l = shsB f b p (l.drop k)) ∧ Hid (Below w0.heap.size w0 wr)) (fun _ iv _ => l.length - (intOf iv).toNat)
  case atStart => exact ⟨0, -1, rfl, rfl, Nat.zero_le _, hid rfl, hid (Below.refl _ _)⟩
  case round =>
    obtain ⟨k, p, rfl, rfl, hk, hS, hB⟩ := hrel
    have BW : Hid (∀ W, Below w0.heap.size w0 W → Below w.heap.size w W) := hid (fun W hW => bw.out.trans (hW.mono bw.out.size))
    by_cases hlt : k < l.length
    · obtain ⟨x, hx⟩ : ∃ x, Hid (l[k]'hlt = x) := ⟨_, hid rfl⟩
      obtain ⟨g, o, ea, hg, hc⟩ := ((HE.out.later bw.out).later hB.out) k x (by rw [List.getElem?_eq_getElem hlt, hx.out])
      subst ea
      have el : decide ((k : Int) < (l.length : Int)) = true := by simpa using hlt
      have r0 : wr.cell? ⟨g, o + k * 3, none⟩ = some (.int .i64 x.n) := hc 0 _ rfl
      have r1 : wr.cell? ⟨g, o + k * 3 + 1, none⟩ = some (.int .i64 x.a) := hc 1 _ rfl
      have r2 : wr.cell? ⟨g, o + k * 3 + 2, none⟩ = some (.slice x.da x.dl x.dp) := hc 2 _ rfl
      have t0 : wr.cell? ⟨K, 0, none⟩ = some (.int .i64 f) := cell_under hB.out (by rw [ws.out]; have := hK.out; show K < _; omega) q0.out
      have t1 : wr.cell? ⟨K, 1, none⟩ = some (.int .i64 b) := cell_under hB.out (by rw [ws.out]; have := hK.out; show K < _; omega) q1.out
      have hKw : K < wr.heap.size := by have := hK.out; have := ws.out; have := hB.out.size; omega
      have BA : Hid (∀ ob, Below w0.heap.size w0 (wr.alloc ob)) := hid (fun ob => hB.out.trans ((ba wr ob).mono hB.out.size))
      have ST : Hid (shsB f b (-1) l = (decide (p < x.n ∧ x.n ≤ 15 ∧ f < x.a ∧ x.a ≤ b ∧ (x.dl : Int) ≤ 2304) && shsB f b x.n (l.drop (k + 1)))) := hid (by rw [hS.out, List.drop_eq_getElem_cons hlt, hx.out]; rfl)
      clear hc hB hS
      by_cases c0 : x.n ≤ p
      · have F : Hid (shsB f b (-1) l = false) := hid (by rw [ST.out, decide_eq_false (by omega)]; rfl)
        have e0 : decide (x.n ≤ p) = true := by simpa using c0
        clear c0
        go_wp2
        go_ret
        exact ⟨by rw [F.out]; rfl, BW.out _ (BA.out _)⟩
      have e0 : decide (x.n ≤ p) = false := by simpa using c0
      by_cases c1 : 16 ≤ x.n
      · have F : Hid (shsB f b (-1) l = false) := hid (by rw [ST.out, decide_eq_false (by omega)]; rfl)
        have e1 : decide (16 ≤ x.n) = true := by simpa using c1
        clear c0 c1
        go_wp2
        go_ret
        exact ⟨by rw [F.out]; rfl, BW.out _ (BA.out _)⟩
      have e1 : decide (16 ≤ x.n) = false := by simpa using c1
      by_cases c2 : x.a ≤ f
      · have F : Hid (shsB f b (-1) l = false) := hid (by rw [ST.out, decide_eq_false (by omega)]; rfl)
        have e2 : decide (x.a ≤ f) = true := by simpa using c2
        clear c0 c1 c2
        go_wp2
        go_ret
        exact ⟨by rw [F.out]; rfl, BW.out _ (BA.out _)⟩
      have e2 : decide (x.a ≤ f) = false := by simpa using c2
      by_cases c3 : b < x.a
      · have F : Hid (shsB f b (-1) l = false) := hid (by rw [ST.out, decide_eq_false (by omega)]; rfl)
        have e3 : decide (b < x.a) = true := by simpa using c3
        clear c0 c1 c2 c3
        go_wp2
        go_ret
        exact ⟨by rw [F.out]; rfl, BW.out _ (BA.out _)⟩
      have e3 : decide (b < x.a) = false := by simpa using c3
      by_cases c4 : (2304 : Int) < (x.dl : Int)
      · have F : Hid (shsB f b (-1) l = false) := hid (by rw [ST.out, decide_eq_false (by omega)]; rfl)
        have e4 : decide ((2304 : Int) < (x.dl : Int)) = true := by simpa using c4
        clear c0 c1 c2 c3 c4
        go_wp2
        go_ret
        exact ⟨by rw [F.out]; rfl, BW.out _ (BA.out _)⟩
      have e4 : decide ((2304 : Int) < (x.dl : Int)) = false := by simpa using c4
      have F : Hid (shsB f b (-1) l = shsB f b x.n (l.drop (k + 1))) := hid (by rw [ST.out, decide_eq_true (by omega), Bool.true_and])
      clear c0 c1 c2 c3 c4
      go_wp2
      go_roundw
      case rel => exact ⟨k + 1, x.n, rfl, by go_num, by omega, F, hid (BA.out _)⟩
      case measure => simp [intOf]; omega
    · have el : decide ((k : Int) < (l.length : Int)) = false := by simp; omega
      have F : Hid (shsB f b (-1) l = true) := hid (by rw [hS.out, List.drop_of_length_le (by omega)]; rfl)
      go_wp2
      go_ret
      exact ⟨by rw [F.out]; rfl, BW.out _ hB.out⟩
end Go.Proofs.YtdhkdniddjnigaaGreatDoor

namespace Go.Proofs.YtdhkdniddjnigaaGreatDoor
open Go.RowKit
set_option linter.unusedVariables false

/-- May a cargo be? -/
def cgB (f b : Int) (ls : List Sh) (le : List Ent) : Bool := opsB f b le.length && (shsB f b (-1) ls && le.all entB)
def cgE (z : Bool) : Int := if z then 0 else 100
set_option maxHeartbeats 1600000 in
set_option maxRecDepth 1000000 in
theorem cargo_any {w : World} (hT : Tab w) (f b : Int) {sa xa : Option Addr} {ls : List Sh} {le : List Ent} (hs : Shs w sa ls) (he : Ents w xa le) (sp xp : Nat) (hls : ls.length ≤ 9223372036854775807) (hle : le.length ≤ 9223372036854775807) : Calls Tryz.prog 172 #[cgV f b sa ls.length sp xa le.length xp] w fun e w' => e = .returned (.int .i64 (cgE (cgB f b ls le))) ∧ Below w.heap.size w w' := by
  obtain ⟨w0, hw0⟩ : ∃ w0, Hid (w.alloc (.cells #[.int .i64 f, .int .i64 b, .slice sa ls.length sp, .slice xa le.length xp] 49) = w0) := ⟨_, hid rfl⟩
  obtain ⟨K, hK⟩ : ∃ K, Hid (w.heap.size = K) := ⟨_, hid rfl⟩
  have Q0 : Hid (w0.cell? ⟨K, 0, none⟩ = some (.int .i64 f)) := hid (by rw [← hw0.out, ← hK.out]; simp)
  have Q1 : Hid (w0.cell? ⟨K, 1, none⟩ = some (.int .i64 b)) := hid (by rw [← hw0.out, ← hK.out]; simp)
  have Q2 : Hid (w0.cell? ⟨K, 2, none⟩ = some (.slice sa ls.length sp)) := hid (by rw [← hw0.out, ← hK.out]; simp)
  have Q3 : Hid (w0.cell? ⟨K, 3, none⟩ = some (.slice xa le.length xp)) := hid (by rw [← hw0.out, ← hK.out]; simp)
  have KW : Hid ((⟨K, 0, none⟩ : Addr).block < w0.heap.size) := hid (by rw [← hw0.out, ← hK.out]; simp)
  have bw : Hid (Below w.heap.size w w0) := hid (by rw [← hw0.out]; exact ba _ _)
  have BW : Hid (∀ W, Below w0.heap.size w0 W → Below w.heap.size w W) := hid (fun W hW => bw.out.trans (hW.mono bw.out.size))
  have C1 : Hid (∀ W, Below w0.heap.size w0 W → Calls Tryz.prog 197 #[cgV f b sa ls.length sp xa le.length xp] W fun e w' => e = .returned (.bool (opsB f b le.length)) ∧ Below w0.heap.size w0 w') := hid (fun W hW => (ops_any f b sa ls.length sp xa le.length xp).mono fun e w' ⟨h1, h2⟩ => ⟨h1, hW.trans (h2.mono hW.size)⟩)
  have C2 : Hid (∀ W, Below w0.heap.size w0 W → Calls Tryz.prog 198 #[cgV f b sa ls.length sp xa le.length xp] W fun e w' => e = .returned (.bool (shsB f b (-1) ls)) ∧ Below w0.heap.size w0 w') := hid (fun W hW => (sheets_any f b (hs.later (BW.out W hW)) sp xa le.length xp hls).mono fun e w' ⟨h1, h2⟩ => ⟨h1, hW.trans (h2.mono hW.size)⟩)
  have C3 : Hid (∀ W, Below w0.heap.size w0 W → Calls Tryz.prog 199 #[.slice xa le.length xp] W fun e w' => e = .returned (.bool (le.all entB)) ∧ Below w0.heap.size w0 w') := hid (fun W hW => (ents_any (hT.below (BW.out W hW)) (he.later (BW.out W hW)) xp hle).mono fun e w' ⟨h1, h2⟩ => ⟨h1, hW.trans (h2.mono hW.size)⟩)
  have E : Hid (cgB f b ls le = (opsB f b le.length && (shsB f b (-1) ls && le.all entB))) := hid rfl
  generalize opsB f b le.length = z1 at C1 E
  generalize shsB f b (-1) ls = z2 at C2 E
  generalize le.all entB = z3 at C3 E
  generalize cgB f b ls le = z at E ⊢
  clear hT hs he
  have q0 := Q0.out
  have q1 := Q1.out
  have q2 := Q2.out
  have q3 := Q3.out
  go_enter Tryz.func172, Tryz.ntmps172
  go_upto_region 1 with fail
  rw [hw0.out, hK.out]
  go_wp2_with fail
  refine (C1.out _ (Below.refl _ _)).mono ?_
  rintro e w1 ⟨rfl, B1⟩
  have B1 := hid B1
  clear q0 q1 q2 q3 hw0
  cases z1
  · have F : Hid (z = false) := hid (by rw [E.out]; rfl)
    go_wp2
    go_ret
    exact ⟨by rw [F.out]; rfl, BW.out _ B1.out⟩
  have q0 : w1.cell? ⟨K, 0, none⟩ = some (.int .i64 f) := cell_under B1.out KW.out Q0.out
  have q1 : w1.cell? ⟨K, 1, none⟩ = some (.int .i64 b) := cell_under B1.out KW.out Q1.out
  have q2 : w1.cell? ⟨K, 2, none⟩ = some (.slice sa ls.length sp) := cell_under B1.out KW.out Q2.out
  have q3 : w1.cell? ⟨K, 3, none⟩ = some (.slice xa le.length xp) := cell_under B1.out KW.out Q3.out
  go_wp2_with fail
  refine (C2.out _ B1.out).mono ?_
  rintro e w2 ⟨rfl, B2⟩
  have B2 := hid B2
  clear q0 q1 q2 q3
  cases z2
  · have F : Hid (z = false) := hid (by rw [E.out]; rfl)
    go_wp2
    go_ret
    exact ⟨by rw [F.out]; rfl, BW.out _ B2.out⟩
  have q3 : w2.cell? ⟨K, 3, none⟩ = some (.slice xa le.length xp) := cell_under B2.out KW.out Q3.out
  go_wp2_with fail
  refine (C3.out _ B2.out).mono ?_
  rintro e w3 ⟨rfl, B3⟩
  have B3 := hid B3
  clear q3
  cases z3
  · have F : Hid (z = false) := hid (by rw [E.out]; rfl)
    go_wp2
    go_ret
    exact ⟨by rw [F.out]; rfl, BW.out _ B3.out⟩
  · have F : Hid (z = true) := hid (by rw [E.out]; rfl)
    go_wp2
    go_ret
    exact ⟨by rw [F.out]; rfl, BW.out _ B3.out⟩
end Go.Proofs.YtdhkdniddjnigaaGreatDoor

namespace Go.Proofs.YtdhkdniddjnigaaGreatDoor
open Go.RowKit
set_option linter.unusedVariables false

def Ms.zR (m : Ms) : Bool := decide (m.rc = 0 ∧ m.rn = 0 ∧ m.rl = 0)
def Ms.zG (m : Ms) : Bool := decide (m.cf = 0 ∧ m.cb = 0 ∧ m.sl = 0 ∧ m.xl = 0)
def Ms.zO (m : Ms) : Bool := decide (m.ok = 0 ∧ m.onm.toList = [] ∧ m.otx.toList = [] ∧ m.on = 0 ∧ m.om = 0)
set_option maxRecDepth 1000000 in
theorem zeroR {w : World} {b : Nat} {m : Ms} (h : MsAt w b m) : Calls Tryz.prog 128 #[.pointer (some ⟨b, 0, none⟩), .int .i32 82] w fun e w' => e = .returned (.bool m.zR) ∧ w' = w := by
  have k15 : w.cell? ⟨b, 15, none⟩ = some (.int .i64 m.rc) := h 15 _ rfl
  have k16 : w.cell? ⟨b, 16, none⟩ = some (.int .i64 m.rn) := h 16 _ rfl
  have k17 : w.cell? ⟨b, 17, none⟩ = some (.slice m.ra m.rl m.rp) := h 17 _ rfl
  clear h
  by_cases c0 : m.rc = 0
  rotate_left
  · have F : Hid (m.zR = false) := hid (decide_eq_false (by omega))
    have e0 : (m.rc == 0) = false := by simp; omega
    clear c0
    go_enter Tryz.func128, Tryz.ntmps128
    go_wp2
    go_ret
    exact ⟨by rw [F.out]; rfl, rfl⟩
  have e0 : (m.rc == 0) = true := by simp; omega
  by_cases c1 : m.rn = 0
  rotate_left
  · have F : Hid (m.zR = false) := hid (decide_eq_false (by omega))
    have e1 : (m.rn == 0) = false := by simp; omega
    clear c0 c1
    go_enter Tryz.func128, Tryz.ntmps128
    go_wp2
    go_ret
    exact ⟨by rw [F.out]; rfl, rfl⟩
  have e1 : (m.rn == 0) = true := by simp; omega
  by_cases c2 : m.rl = 0
  rotate_left
  · have F : Hid (m.zR = false) := hid (decide_eq_false (by omega))
    have e2 : ((m.rl : Int) == 0) = false := by simp; omega
    clear c0 c1 c2
    go_enter Tryz.func128, Tryz.ntmps128
    go_wp2
    go_ret
    exact ⟨by rw [F.out]; rfl, rfl⟩
  have e2 : ((m.rl : Int) == 0) = true := by simp; omega
  have F : Hid (m.zR = true) := hid (decide_eq_true (by omega))
  clear c0 c1 c2
  go_enter Tryz.func128, Tryz.ntmps128
  go_wp2
  go_ret
  exact ⟨by rw [F.out]; rfl, rfl⟩
set_option maxRecDepth 1000000 in
theorem zeroG {w : World} {b : Nat} {m : Ms} (h : MsAt w b m) : Calls Tryz.prog 128 #[.pointer (some ⟨b, 0, none⟩), .int .i32 71] w fun e w' => e = .returned (.bool m.zG) ∧ w' = w := by
  have k19 : w.cell? ⟨b, 19, none⟩ = some (.int .i64 m.cf) := h 19 _ rfl
  have k20 : w.cell? ⟨b, 20, none⟩ = some (.int .i64 m.cb) := h 20 _ rfl
  have k21 : w.cell? ⟨b, 21, none⟩ = some (.slice m.sa m.sl m.sp) := h 21 _ rfl
  have k22 : w.cell? ⟨b, 22, none⟩ = some (.slice m.xa m.xl m.xp) := h 22 _ rfl
  clear h
  by_cases c0 : m.cf = 0
  rotate_left
  · have F : Hid (m.zG = false) := hid (decide_eq_false (by omega))
    have e0 : (m.cf == 0) = false := by simp; omega
    clear c0
    go_enter Tryz.func128, Tryz.ntmps128
    go_wp2
    go_ret
    exact ⟨by rw [F.out]; rfl, rfl⟩
  have e0 : (m.cf == 0) = true := by simp; omega
  by_cases c1 : m.cb = 0
  rotate_left
  · have F : Hid (m.zG = false) := hid (decide_eq_false (by omega))
    have e1 : (m.cb == 0) = false := by simp; omega
    clear c0 c1
    go_enter Tryz.func128, Tryz.ntmps128
    go_wp2
    go_ret
    exact ⟨by rw [F.out]; rfl, rfl⟩
  have e1 : (m.cb == 0) = true := by simp; omega
  by_cases c2 : m.sl = 0
  rotate_left
  · have F : Hid (m.zG = false) := hid (decide_eq_false (by omega))
    have e2 : ((m.sl : Int) == 0) = false := by simp; omega
    clear c0 c1 c2
    go_enter Tryz.func128, Tryz.ntmps128
    go_wp2
    go_ret
    exact ⟨by rw [F.out]; rfl, rfl⟩
  have e2 : ((m.sl : Int) == 0) = true := by simp; omega
  by_cases c3 : m.xl = 0
  rotate_left
  · have F : Hid (m.zG = false) := hid (decide_eq_false (by omega))
    have e3 : ((m.xl : Int) == 0) = false := by simp; omega
    clear c0 c1 c2 c3
    go_enter Tryz.func128, Tryz.ntmps128
    go_wp2
    go_ret
    exact ⟨by rw [F.out]; rfl, rfl⟩
  have e3 : ((m.xl : Int) == 0) = true := by simp; omega
  have F : Hid (m.zG = true) := hid (decide_eq_true (by omega))
  clear c0 c1 c2 c3
  go_enter Tryz.func128, Tryz.ntmps128
  go_wp2
  go_ret
  exact ⟨by rw [F.out]; rfl, rfl⟩
set_option maxRecDepth 1000000 in
theorem zeroO {w : World} {b : Nat} {m : Ms} (h : MsAt w b m) : Calls Tryz.prog 128 #[.pointer (some ⟨b, 0, none⟩), .int .i32 79] w fun e w' => e = .returned (.bool m.zO) ∧ w' = w := by
  have k10 : w.cell? ⟨b, 10, none⟩ = some (.int .i64 m.ok) := h 10 _ rfl
  have k11 : w.cell? ⟨b, 11, none⟩ = some (.string m.onm) := h 11 _ rfl
  have k12 : w.cell? ⟨b, 12, none⟩ = some (.string m.otx) := h 12 _ rfl
  have k13 : w.cell? ⟨b, 13, none⟩ = some (.int .i64 m.on) := h 13 _ rfl
  have k14 : w.cell? ⟨b, 14, none⟩ = some (.int .i64 m.om) := h 14 _ rfl
  clear h
  go_enter Tryz.func128, Tryz.ntmps128
  go_wp2
  all_goals
    go_ret
    exact ⟨by simp [Ms.zO, *], rfl⟩
end Go.Proofs.YtdhkdniddjnigaaGreatDoor

namespace Go.Proofs.YtdhkdniddjnigaaGreatDoor
open Go.RowKit
set_option linter.unusedVariables false

/-- The lists of a message, as they are read. -/
structure Ml (w : World) (m : Ms) (li : List ByteArray) (le : List Ent) (ls : List Sh) (lx : List Ent) : Prop where
  it : Txts w (.slice m.ra m.rl m.rp) li
  en : Ents w m.ea le
  sh : Shs w m.sa ls
  ex : Ents w m.xa lx
  nr : m.rl = li.length
  ne : m.el = le.length
  ns : m.sl = ls.length
  nx : m.xl = lx.length
  br : m.rl ≤ 9223372036854775807
  be : m.el ≤ 9223372036854775807
  bs : m.sl ≤ 9223372036854775807
  bx : m.xl ≤ 9223372036854775807
theorem Ml.later {w w' : World} {m : Ms} {li : List ByteArray} {le lx : List Ent} {ls : List Sh} (h : Ml w m li le ls lx) (hb : Below w.heap.size w w') : Ml w' m li le ls lx :=
  ⟨h.it.later hb, h.en.later hb, h.sh.later hb, h.ex.later hb, h.nr, h.ne, h.ns, h.nx, h.br, h.be, h.bs, h.bx⟩

set_option maxRecDepth 1000000 in
theorem mayR {w : World} {b : Nat} {m : Ms} {li : List ByteArray} {le lx : List Ent} {ls : List Sh} (h : MsAt w b m) (hl : Ml w m li le ls lx) : Calls Tryz.prog 126 #[.pointer (some ⟨b, 0, none⟩), .int .i32 82] w fun e w' => e = .returned (.bool (chkX m.rc m.rn li == 0)) ∧ Below w.heap.size w w' := by
  have k15 : w.cell? ⟨b, 15, none⟩ = some (.int .i64 m.rc) := h 15 _ rfl
  have k16 : w.cell? ⟨b, 16, none⟩ = some (.int .i64 m.rn) := h 16 _ rfl
  have k17 : w.cell? ⟨b, 17, none⟩ = some (.slice m.ra m.rl m.rp) := h 17 _ rfl
  have C : Hid (Calls Tryz.prog 98 #[resV m.rc m.rn (.slice m.ra m.rl m.rp)] w fun e w' => e = .returned (.int .i64 (chkX m.rc m.rn li)) ∧ Below w.heap.size w w') := hid (checkX_any m.rc m.rn hl.it (by have := hl.nr; have := hl.br; omega))
  generalize chkX m.rc m.rn li = z at C ⊢
  clear h hl
  go_enter Tryz.func126, Tryz.ntmps126
  go_wp2_with fail
  refine C.out.mono ?_
  rintro e w1 ⟨rfl, B1⟩
  have B1 := hid B1
  go_wp2
  go_ret
  exact ⟨rfl, B1.out⟩
set_option maxRecDepth 1000000 in
theorem mayG {w : World} {b : Nat} {m : Ms} {li : List ByteArray} {le lx : List Ent} {ls : List Sh} (hT : Tab w) (h : MsAt w b m) (hl : Ml w m li le ls lx) : Calls Tryz.prog 126 #[.pointer (some ⟨b, 0, none⟩), .int .i32 71] w fun e w' => e = .returned (.bool (cgB m.cf m.cb ls lx)) ∧ Below w.heap.size w w' := by
  have k19 : w.cell? ⟨b, 19, none⟩ = some (.int .i64 m.cf) := h 19 _ rfl
  have k20 : w.cell? ⟨b, 20, none⟩ = some (.int .i64 m.cb) := h 20 _ rfl
  have k21 : w.cell? ⟨b, 21, none⟩ = some (.slice m.sa m.sl m.sp) := h 21 _ rfl
  have k22 : w.cell? ⟨b, 22, none⟩ = some (.slice m.xa m.xl m.xp) := h 22 _ rfl
  have C : Hid (Calls Tryz.prog 172 #[cgV m.cf m.cb m.sa m.sl m.sp m.xa m.xl m.xp] w fun e w' => e = .returned (.int .i64 (cgE (cgB m.cf m.cb ls lx))) ∧ Below w.heap.size w w') := hid (by
    have := cargo_any hT m.cf m.cb hl.sh hl.ex m.sp m.xp (by have := hl.ns; have := hl.bs; omega) (by have := hl.nx; have := hl.bx; omega)
    rw [← hl.ns, ← hl.nx] at this
    exact this)
  generalize cgB m.cf m.cb ls lx = z at C ⊢
  have hz : Hid (z = (cgE z == 0)) := hid (by cases z <;> rfl)
  generalize cgE z = y at C hz
  clear h hl hT
  go_enter Tryz.func126, Tryz.ntmps126
  go_wp2_with fail
  refine C.out.mono ?_
  rintro e w1 ⟨rfl, B1⟩
  have B1 := hid B1
  go_wp2
  go_ret
  exact ⟨by rw [hz.out]; rfl, B1.out⟩
/-- May the op be? -/
def Ms.oB (m : Ms) : Bool := decide (chkA m.ok m.onm.size m.otx.size m.on m.om = 0) && (decide (m.k ≠ 14) || decide (6 ≤ m.ok ∧ m.ok ≤ 8))
set_option maxRecDepth 1000000 in
theorem mayOO {w : World} {b : Nat} {m : Ms} (hT : Tab w) (h : MsAt w b m) : Calls Tryz.prog 126 #[.pointer (some ⟨b, 0, none⟩), .int .i32 79] w fun e w' => e = .returned (.bool m.oB) ∧ Below w.heap.size w w' := by
  have C : Hid (Calls Tryz.prog 169 #[opV m.ok m.onm m.otx m.on m.om] w fun e w' => e = .returned (.int .i64 (chkA m.ok m.onm.size m.otx.size m.on m.om)) ∧ Below w.heap.size w w') := hid (check_any hT m.ok m.onm m.otx m.on m.om)
  have CQ : Hid (∀ W : World, Calls Tryz.prog 170 #[.int .i64 m.ok] W fun e w' => e = .returned (.bool (decide (6 ≤ m.ok ∧ m.ok ≤ 8))) ∧ w' = W) := hid (fun W => query_any m.ok)
  have E : Hid (m.oB = (decide (chkA m.ok m.onm.size m.otx.size m.on m.om = 0) && (decide (m.k ≠ 14) || decide (6 ≤ m.ok ∧ m.ok ≤ 8)))) := hid rfl
  have HM := hid h
  have k10 : w.cell? ⟨b, 10, none⟩ = some (.int .i64 m.ok) := h 10 _ rfl
  have k11 : w.cell? ⟨b, 11, none⟩ = some (.string m.onm) := h 11 _ rfl
  have k12 : w.cell? ⟨b, 12, none⟩ = some (.string m.otx) := h 12 _ rfl
  have k13 : w.cell? ⟨b, 13, none⟩ = some (.int .i64 m.on) := h 13 _ rfl
  have k14 : w.cell? ⟨b, 14, none⟩ = some (.int .i64 m.om) := h 14 _ rfl
  generalize chkA m.ok m.onm.size m.otx.size m.on m.om = z at C E
  generalize decide (6 ≤ m.ok ∧ m.ok ≤ 8) = y at CQ E
  generalize m.oB = x at E ⊢
  clear h hT
  go_enter Tryz.func126, Tryz.ntmps126
  go_wp2_with fail
  refine C.out.mono ?_
  rintro e w1 ⟨rfl, B1⟩
  have h1 := HM.out.under B1
  have B1 := hid B1
  clear k10 k11 k12 k13 k14 C
  have k0 : w1.cell? ⟨b, 0, none⟩ = some (.int .i64 m.k) := h1 0 _ rfl
  have k10 : w1.cell? ⟨b, 10, none⟩ = some (.int .i64 m.ok) := h1 10 _ rfl
  clear h1
  by_cases hz : z = 0
  rotate_left
  · have F : Hid (x = false) := hid (by rw [E.out, decide_eq_false hz]; rfl)
    have ez : (z == 0) = false := by simpa using hz
    clear hz
    go_wp2
    go_ret
    exact ⟨by rw [F.out]; rfl, B1.out⟩
  have ez : (z == 0) = true := by simpa using hz
  by_cases h14 : m.k = 14
  rotate_left
  · have F : Hid (x = true) := hid (by rw [E.out, decide_eq_true hz, decide_eq_true h14]; rfl)
    have e14 : (m.k != 14) = true := by simpa using h14
    clear hz h14
    go_wp2
    go_ret
    exact ⟨by rw [F.out]; rfl, B1.out⟩
  have F : Hid (x = y) := hid (by rw [E.out, decide_eq_true hz, decide_eq_false (by simpa using h14)]; simp)
  have e14 : (m.k != 14) = false := by simpa using h14
  clear hz h14
  go_wp2_with (go_at_call 170; refine (CQ.out _).mono ?_; rintro e w' ⟨rfl, rfl⟩)
  go_ret
  exact ⟨by rw [F.out]; rfl, B1.out⟩
end Go.Proofs.YtdhkdniddjnigaaGreatDoor

namespace Go.Proofs.YtdhkdniddjnigaaGreatDoor
open Go.RowKit
set_option linter.unusedVariables false

/-- May the entries be? -/
def Ms.eB (m : Ms) (le : List Ent) : Bool := inR (m.el : Int) 1 8 && cgB 0 (m.n - 1) [] le
set_option maxRecDepth 1000000 in
theorem ent107 {w : World} {b : Nat} {m : Ms} {li : List ByteArray} {le lx : List Ent} {ls : List Sh} (hT : Tab w) (h : MsAt w b m) (hl : Ml w m li le ls lx) (hn : 1 ≤ m.n ∧ m.n ≤ 1099511627776) : Calls Tryz.prog 171 #[.pointer (some ⟨b, 0, none⟩)] w fun e w' => e = .returned (.bool (m.eB le)) ∧ Below w.heap.size w w' := by
  have A0 := hid (All.came w)
  have SS : Hid (∀ W, All [inC w] W → W.cell? ⟨b, 4, none⟩ = some (.int .i64 m.n) ∧ W.cell? ⟨b, 18, none⟩ = some (.slice m.ea m.el m.ep)) := hid (fun W hW => by
    have hm := h.under (hW.into (w0 := w) (by simp))
    exact ⟨hm 4 _ rfl, hm 18 _ rfl⟩)
  have CW : Hid (∀ W : World, Calls Tryz.prog 124 #[.int .i64 (m.el : Int), .int .i64 1, .int .i64 8] W fun e w' => e = .returned (.bool (inR (m.el : Int) 1 8)) ∧ w' = W) := hid (fun W => within_b _ _ _)
  have CG : Hid (∀ W, All [inC w] W → Calls Tryz.prog 172 #[.agg #[.int .i64 0, .int .i64 (m.n - 1), .slice none 0 0, .slice m.ea m.el m.ep]] W fun e w' => e = .returned (.int .i64 (cgE (cgB 0 (m.n - 1) [] le))) ∧ All [inC w] w') := hid (fun W hW => by
    have hb := hW.into (w0 := w) (by simp)
    have := cargo_any (hT.below hb) 0 (m.n - 1) (sa := none) (ls := []) (fun i x hx => by simp at hx) (hl.en.later hb) 0 m.ep (by simp) (by have := hl.ne; have := hl.be; omega)
    rw [← hl.ne] at this
    refine this.mono ?_
    rintro e w' ⟨h1, h2⟩
    exact ⟨h1, hW.later h2⟩)
  have E : Hid (m.eB le = (inR (m.el : Int) 1 8 && cgB 0 (m.n - 1) [] le)) := hid rfl
  generalize inR (m.el : Int) 1 8 = z at CW E
  generalize cgB 0 (m.n - 1) [] le = y at CG E
  have hy : Hid (y = (cgE y == 0)) := hid (by cases y <;> rfl)
  generalize cgE y = v at CG hy
  generalize m.eB le = x at E ⊢
  have hw : IntKind.i64.wrap (m.n - 1) = m.n - 1 := by rw [IntKind.wrap_i64]; omega
  have p0 := hid (SS.out _ A0.out)
  obtain ⟨k4, k18⟩ := p0.out
  clear h hl hT hn
  cases z
  · have F : Hid (x = false) := hid (by rw [E.out]; rfl)
    go_enter Tryz.func171, Tryz.ntmps171
    go_wp2_with fail
    refine wp_region_held_drew (S := (fun W => W.cell? ⟨b, 4, none⟩ = some (.int .i64 m.n) ∧ W.cell? ⟨b, 18, none⟩ = some (.slice m.ea m.el m.ep))) (by kernel_rfl) (SS.out _ A0.out.drew) (fun hHeld => ?_)
    refine wpAnyH_take (i := 0) (oi := { dst := some 3, op := Go.Op.move (Go.Operand.tmp 0), type := 164, pos := "fields.go:119", after := #[], guard := none }) (v := ?_) rfl (by kernel_rfl) (by kernel_rfl) (by kernel_rfl) (fun _ _ _ h => h) (Or.inl ⟨by rfl, ?_⟩) hHeld ?_
    rotate_left
    · intro W hSw
      (try dsimp only at hSw)
      go_simp
      (try with_reducible rfl)
    (try simp only [Act.put, List.setIfInBounds_toArray, List.set_cons_zero, List.set_cons_succ])
    refine wpAnyH_take (i := 1) (oi := { dst := some 4, op := Go.Op.nilCheck (Go.Operand.tmp 3), type := 0, pos := "fields.go:119", after := #[{ on := 0, ground := Go.Ground.data }], guard := none }) (v := ?_) rfl (by kernel_rfl) (by kernel_rfl) (by kernel_rfl) (fun _ _ _ h => h) (Or.inl ⟨by rfl, ?_⟩) hHeld ?_
    rotate_left
    · intro W hSw
      (try dsimp only at hSw)
      go_simp
      (try with_reducible rfl)
    (try simp only [Act.put, List.setIfInBounds_toArray, List.set_cons_zero, List.set_cons_succ])
    refine wpAnyH_take (i := 2) (oi := { dst := some 5, op := Go.Op.fieldAddr 51 (Go.Operand.tmp 4) 12, type := 0, pos := "fields.go:119", after := #[{ on := 1, ground := Go.Ground.data }], guard := none }) (v := ?_) rfl (by kernel_rfl) (by kernel_rfl) (by kernel_rfl) (fun _ _ _ h => h) (Or.inl ⟨by rfl, ?_⟩) hHeld ?_
    rotate_left
    · intro W hSw
      (try dsimp only at hSw)
      go_simp
      (try with_reducible rfl)
    (try simp only [Act.put, List.setIfInBounds_toArray, List.set_cons_zero, List.set_cons_succ])
    refine wpAnyH_take (i := 3) (oi := { dst := some 6, op := Go.Op.load 46 (Go.Operand.tmp 5), type := 46, pos := "fields.go:119", after := #[{ on := 2, ground := Go.Ground.data }], guard := none }) (v := ?_) rfl (by kernel_rfl) (by kernel_rfl) (by kernel_rfl) (fun _ _ _ h => h) (Or.inl ⟨by rfl, ?_⟩) hHeld ?_
    rotate_left
    · intro W hSw
      (try dsimp only at hSw)
      go_simp
      (try with_reducible rfl)
    (try simp only [Act.put, List.setIfInBounds_toArray, List.set_cons_zero, List.set_cons_succ])
    refine wpAnyH_take (i := 4) (oi := { dst := some 7, op := Go.Op.call { callee := Go.Callee.builtin Go.Builtin.len, args := #[Go.Operand.tmp 6], argTypes := #[46] }, type := 3, pos := "fields.go:119", after := #[{ on := 3, ground := Go.Ground.data }], guard := none }) (v := ?_) rfl (by kernel_rfl) (by kernel_rfl) (by kernel_rfl) (fun _ _ _ h => h) (Or.inl ⟨by rfl, ?_⟩) hHeld ?_
    rotate_left
    · intro W hSw
      (try dsimp only at hSw)
      go_simp
      (try with_reducible rfl)
    (try simp only [Act.put, List.setIfInBounds_toArray, List.set_cons_zero, List.set_cons_succ])
    refine wpAnyH_ready (rs := [5]) (by kernel_rfl) (by simp) ?_
    refine AllReadyH.cons (o := { dst := some 8, op := Go.Op.call { callee := Go.Callee.value (Go.Operand.func 124), args := #[Go.Operand.tmp 7, Go.Operand.const (Go.Value.int Go.IntKind.i64 1), Go.Operand.const (Go.Value.int Go.IntKind.i64 8)], argTypes := #[3, 3, 3] }, type := 4, pos := "fields.go:119", after := #[{ on := 4, ground := Go.Ground.data }], guard := none }) rfl (fun K hK => ?_) AllReadyH.nil
    go_simp
    refine (CW.out _).mono ?_; rintro e w1 ⟨rfl, hw1⟩; have A1 := hid (A0.out.drew); rw [← hw1] at A1; have p1 := hid (SS.out _ A1.out); clear hw1
    refine hK.out _ _ p1.out (fun hHeld => ?_)
    clear hK K
    (try simp only [Act.put, List.setIfInBounds_toArray, List.set_cons_zero, List.set_cons_succ])
    refine wpAnyH_take (i := 6) (oi := { dst := some 9, op := Go.Op.move (Go.Operand.tmp 8), type := 4, pos := "fields.go:119", after := #[{ on := 5, ground := Go.Ground.data }, { on := 5, ground := Go.Ground.chain }], guard := none }) (v := ?_) rfl (by kernel_rfl) (by kernel_rfl) (by kernel_rfl) (fun _ _ _ h => h) (Or.inl ⟨by rfl, ?_⟩) hHeld ?_
    rotate_left
    · intro W hSw
      (try dsimp only at hSw)
      go_simp
      (try with_reducible rfl)
    (try simp only [Act.put, List.setIfInBounds_toArray, List.set_cons_zero, List.set_cons_succ])
    refine wpAnyH_take (i := 7) (oi := { dst := some 10, op := Go.Op.move (Go.Operand.tmp 0), type := 164, pos := "fields.go:119", after := #[{ on := 6, ground := Go.Ground.guard }], guard := some (6, true) }) (v := undef) rfl (by kernel_rfl) (by kernel_rfl) (by kernel_rfl) (fun _ _ _ h => h) (Or.inr ⟨by rfl, rfl⟩) hHeld ?_
    (try simp only [Act.put, List.setIfInBounds_toArray, List.set_cons_zero, List.set_cons_succ])
    refine wpAnyH_take (i := 8) (oi := { dst := some 11, op := Go.Op.nilCheck (Go.Operand.tmp 10), type := 0, pos := "fields.go:119", after := #[{ on := 7, ground := Go.Ground.data }, { on := 6, ground := Go.Ground.guard }], guard := some (6, true) }) (v := undef) rfl (by kernel_rfl) (by kernel_rfl) (by kernel_rfl) (fun _ _ _ h => h) (Or.inr ⟨by rfl, rfl⟩) hHeld ?_
    (try simp only [Act.put, List.setIfInBounds_toArray, List.set_cons_zero, List.set_cons_succ])
    refine wpAnyH_take (i := 9) (oi := { dst := some 12, op := Go.Op.fieldAddr 51 (Go.Operand.tmp 11) 4, type := 0, pos := "fields.go:119", after := #[{ on := 8, ground := Go.Ground.data }, { on := 6, ground := Go.Ground.guard }], guard := some (6, true) }) (v := undef) rfl (by kernel_rfl) (by kernel_rfl) (by kernel_rfl) (fun _ _ _ h => h) (Or.inr ⟨by rfl, rfl⟩) hHeld ?_
    (try simp only [Act.put, List.setIfInBounds_toArray, List.set_cons_zero, List.set_cons_succ])
    refine wpAnyH_take (i := 10) (oi := { dst := some 13, op := Go.Op.load 3 (Go.Operand.tmp 12), type := 3, pos := "fields.go:119", after := #[{ on := 9, ground := Go.Ground.data }, { on := 6, ground := Go.Ground.guard }], guard := some (6, true) }) (v := undef) rfl (by kernel_rfl) (by kernel_rfl) (by kernel_rfl) (fun _ _ _ h => h) (Or.inr ⟨by rfl, rfl⟩) hHeld ?_
    (try simp only [Act.put, List.setIfInBounds_toArray, List.set_cons_zero, List.set_cons_succ])
    refine wpAnyH_take (i := 11) (oi := { dst := some 14, op := Go.Op.binOp Go.BinOp.sub 3 (Go.Operand.tmp 13) (Go.Operand.const (Go.Value.int Go.IntKind.i64 1)) 3, type := 3, pos := "fields.go:119", after := #[{ on := 10, ground := Go.Ground.data }, { on := 6, ground := Go.Ground.guard }], guard := some (6, true) }) (v := undef) rfl (by kernel_rfl) (by kernel_rfl) (by kernel_rfl) (fun _ _ _ h => h) (Or.inr ⟨by rfl, rfl⟩) hHeld ?_
    (try simp only [Act.put, List.setIfInBounds_toArray, List.set_cons_zero, List.set_cons_succ])
    refine wpAnyH_take (i := 12) (oi := { dst := some 15, op := Go.Op.move (Go.Operand.tmp 0), type := 164, pos := "fields.go:119", after := #[{ on := 6, ground := Go.Ground.guard }], guard := some (6, true) }) (v := undef) rfl (by kernel_rfl) (by kernel_rfl) (by kernel_rfl) (fun _ _ _ h => h) (Or.inr ⟨by rfl, rfl⟩) hHeld ?_
    (try simp only [Act.put, List.setIfInBounds_toArray, List.set_cons_zero, List.set_cons_succ])
    refine wpAnyH_take (i := 13) (oi := { dst := some 16, op := Go.Op.nilCheck (Go.Operand.tmp 15), type := 0, pos := "fields.go:119", after := #[{ on := 12, ground := Go.Ground.data }, { on := 6, ground := Go.Ground.guard }], guard := some (6, true) }) (v := undef) rfl (by kernel_rfl) (by kernel_rfl) (by kernel_rfl) (fun _ _ _ h => h) (Or.inr ⟨by rfl, rfl⟩) hHeld ?_
    (try simp only [Act.put, List.setIfInBounds_toArray, List.set_cons_zero, List.set_cons_succ])
    refine wpAnyH_take (i := 14) (oi := { dst := some 17, op := Go.Op.fieldAddr 51 (Go.Operand.tmp 16) 12, type := 0, pos := "fields.go:119", after := #[{ on := 13, ground := Go.Ground.data }, { on := 6, ground := Go.Ground.guard }], guard := some (6, true) }) (v := undef) rfl (by kernel_rfl) (by kernel_rfl) (by kernel_rfl) (fun _ _ _ h => h) (Or.inr ⟨by rfl, rfl⟩) hHeld ?_
    (try simp only [Act.put, List.setIfInBounds_toArray, List.set_cons_zero, List.set_cons_succ])
    refine wpAnyH_take (i := 15) (oi := { dst := some 18, op := Go.Op.load 46 (Go.Operand.tmp 17), type := 46, pos := "fields.go:119", after := #[{ on := 14, ground := Go.Ground.data }, { on := 6, ground := Go.Ground.guard }], guard := some (6, true) }) (v := undef) rfl (by kernel_rfl) (by kernel_rfl) (by kernel_rfl) (fun _ _ _ h => h) (Or.inr ⟨by rfl, rfl⟩) hHeld ?_
    (try simp only [Act.put, List.setIfInBounds_toArray, List.set_cons_zero, List.set_cons_succ])
    refine wpAnyH_take (i := 16) (oi := { dst := some 19, op := Go.Op.build 49 #[(1, Go.Operand.tmp 14), (3, Go.Operand.tmp 18)], type := 49, pos := "fields.go:119", after := #[{ on := 11, ground := Go.Ground.data }, { on := 15, ground := Go.Ground.data }, { on := 6, ground := Go.Ground.guard }], guard := some (6, true) }) (v := undef) rfl (by kernel_rfl) (by kernel_rfl) (by kernel_rfl) (fun _ _ _ h => h) (Or.inr ⟨by rfl, rfl⟩) hHeld ?_
    (try simp only [Act.put, List.setIfInBounds_toArray, List.set_cons_zero, List.set_cons_succ])
    refine wpAnyH_take (i := 17) (oi := { dst := some 20, op := Go.Op.call { callee := Go.Callee.value (Go.Operand.func 172), args := #[Go.Operand.tmp 19], argTypes := #[49] }, type := 35, pos := "fields.go:119", after := #[{ on := 16, ground := Go.Ground.data }, { on := 6, ground := Go.Ground.chain }, { on := 6, ground := Go.Ground.guard }], guard := some (6, true) }) (v := undef) rfl (by kernel_rfl) (by kernel_rfl) (by kernel_rfl) (fun _ _ _ h => h) (Or.inr ⟨by rfl, rfl⟩) hHeld ?_
    (try simp only [Act.put, List.setIfInBounds_toArray, List.set_cons_zero, List.set_cons_succ])
    refine wpAnyH_take (i := 18) (oi := { dst := some 21, op := Go.Op.binOp Go.BinOp.eql 35 (Go.Operand.tmp 20) (Go.Operand.const (Go.Value.int Go.IntKind.i64 0)) 35, type := 4, pos := "fields.go:119", after := #[{ on := 17, ground := Go.Ground.data }, { on := 6, ground := Go.Ground.guard }], guard := some (6, true) }) (v := undef) rfl (by kernel_rfl) (by kernel_rfl) (by kernel_rfl) (fun _ _ _ h => h) (Or.inr ⟨by rfl, rfl⟩) hHeld ?_
    (try simp only [Act.put, List.setIfInBounds_toArray, List.set_cons_zero, List.set_cons_succ])
    refine wpAnyH_take (i := 19) (oi := { dst := some 22, op := Go.Op.pick (Go.Operand.tmp 9) (Go.Operand.tmp 21) (Go.Operand.const (Go.Value.bool false)), type := 4, pos := "fields.go:119", after := #[{ on := 6, ground := Go.Ground.data }, { on := 18, ground := Go.Ground.data }], guard := none }) (v := ?_) rfl (by kernel_rfl) (by kernel_rfl) (by kernel_rfl) (fun _ _ _ h => h) (Or.inl ⟨by rfl, ?_⟩) hHeld ?_
    rotate_left
    · intro W hSw
      (try dsimp only at hSw)
      go_simp
      (try with_reducible rfl)
    (try simp only [Act.put, List.setIfInBounds_toArray, List.set_cons_zero, List.set_cons_succ])
    refine wpAnyH_take (i := 20) (oi := { dst := some 2, op := Go.Op.assign (Go.Operand.tmp 22), type := 4, pos := "fields.go:119", after := #[{ on := 19, ground := Go.Ground.data }, { on := 17, ground := Go.Ground.chain }, { on := 0, ground := Go.Ground.phase }, { on := 1, ground := Go.Ground.phase }, { on := 2, ground := Go.Ground.phase }, { on := 3, ground := Go.Ground.phase }, { on := 4, ground := Go.Ground.phase }, { on := 5, ground := Go.Ground.phase }, { on := 6, ground := Go.Ground.phase }, { on := 7, ground := Go.Ground.phase }, { on := 8, ground := Go.Ground.phase }, { on := 9, ground := Go.Ground.phase }, { on := 10, ground := Go.Ground.phase }, { on := 11, ground := Go.Ground.phase }, { on := 12, ground := Go.Ground.phase }, { on := 13, ground := Go.Ground.phase }, { on := 14, ground := Go.Ground.phase }, { on := 15, ground := Go.Ground.phase }, { on := 16, ground := Go.Ground.phase }, { on := 17, ground := Go.Ground.phase }, { on := 18, ground := Go.Ground.phase }, { on := 19, ground := Go.Ground.phase }], guard := none }) (v := ?_) rfl (by kernel_rfl) (by kernel_rfl) (by kernel_rfl) (fun _ _ _ h => h) (Or.inl ⟨by rfl, ?_⟩) hHeld ?_
    rotate_left
    · intro W hSw
      (try dsimp only at hSw)
      go_simp
      (try with_reducible rfl)
    (try simp only [Act.put, List.setIfInBounds_toArray, List.set_cons_zero, List.set_cons_succ])
    refine wpAnyH_done (by kernel_rfl) ?_ _
    clear hHeld
    clear p0 p1 k4 k18
    go_wp2
    go_ret
    exact ⟨by rw [F.out]; rfl, A1.out.into (w0 := w) (by simp)⟩
  · have F : Hid (x = y) := hid (by rw [E.out]; rfl)
    go_enter Tryz.func171, Tryz.ntmps171
    go_wp2_with fail
    go_region_held3 (fun W => W.cell? ⟨b, 4, none⟩ = some (.int .i64 m.n) ∧ W.cell? ⟨b, 18, none⟩ = some (.slice m.ea m.el m.ep)) (first | exact p0.out | exact p1.out | exact p2.out)
      (first
        | (go_at_call 124; refine (CW.out _).mono ?_; rintro e w1 ⟨rfl, hw1⟩; have A1 := hid (A0.out.drew); rw [← hw1] at A1; have p1 := hid (SS.out _ A1.out); clear hw1)
        | (go_at_call 172; refine (CG.out _ A1.out).mono ?_; rintro e w2 ⟨rfl, hw2⟩; have A2 := hid hw2; have p2 := hid (SS.out _ A2.out); clear hw2))
    clear p0 p1 p2 k4 k18
    go_wp2
    go_ret
    exact ⟨by rw [F.out, hy.out]; rfl, A2.out.into (w0 := w) (by simp)⟩
end Go.Proofs.YtdhkdniddjnigaaGreatDoor
