import Derived.Test.YthoppemjfdnibaaGreatDoorJ34
namespace Go.Proofs.YthoppemjfdnibaaGreatDoor
open Go.RowKit
set_option linter.unusedVariables false

set_option maxRecDepth 1000000 in
theorem may111 {w : World} (x : Ent) : Calls Tryz.prog 111 #[x.V] w fun e w' => e = .returned (.bool (entB x)) ∧ Below w.heap.size w w' := by
  obtain ⟨z, hz⟩ : ∃ z, Hid (entB x = z) := ⟨_, hid rfl⟩
  rw [hz.out]
  have CK : Hid (∀ W, Below w.heap.size w W → Calls Tryz.prog 78 #[opV x.k x.nm x.tx x.m x.q] W fun e w' => e = .returned (.int .i64 (chkA x.k x.nm.size x.tx.size x.m x.q)) ∧ Below w.heap.size w w') := hid (fun W hW => (rcheck_any x.k x.nm x.tx x.m x.q).mono fun e w' ⟨h1, h2⟩ => ⟨h1, hW.trans (h2.mono hW.size)⟩)
  have BA : Hid (∀ ob, Below w.heap.size w (w.alloc ob)) := hid (fun ob => ba w ob)
  by_cases c0 : 0 ≤ x.c
  rotate_left
  · have F : Hid (z = false) := hid (by rw [← hz.out]; exact decide_eq_false (by omega))
    have e0 : decide (0 ≤ x.c) = false := by simpa using c0
    clear c0 hz
    go_enter Tryz.func111, Tryz.ntmps111
    go_wp2
    go_ret
    exact ⟨by rw [F.out]; rfl, BA.out _⟩
  have e0 : decide (0 ≤ x.c) = true := by simpa using c0
  by_cases c1 : x.c < 8
  rotate_left
  · have F : Hid (z = false) := hid (by rw [← hz.out]; exact decide_eq_false (by omega))
    have e1 : decide (x.c < 8) = false := by simpa using c1
    clear c0 c1 hz
    go_enter Tryz.func111, Tryz.ntmps111
    go_wp2
    go_ret
    exact ⟨by rw [F.out]; rfl, BA.out _⟩
  have e1 : decide (x.c < 8) = true := by simpa using c1
  by_cases c2 : 1 ≤ x.n
  rotate_left
  · have F : Hid (z = false) := hid (by rw [← hz.out]; exact decide_eq_false (by omega))
    have e2 : decide (1 ≤ x.n) = false := by simpa using c2
    clear c0 c1 c2 hz
    go_enter Tryz.func111, Tryz.ntmps111
    go_wp2
    go_ret
    exact ⟨by rw [F.out]; rfl, BA.out _⟩
  have e2 : decide (1 ≤ x.n) = true := by simpa using c2
  by_cases c3 : x.n ≤ 1099511627776
  rotate_left
  · have F : Hid (z = false) := hid (by rw [← hz.out]; exact decide_eq_false (by omega))
    have e3 : decide (x.n ≤ 1099511627776) = false := by simpa using c3
    clear c0 c1 c2 c3 hz
    go_enter Tryz.func111, Tryz.ntmps111
    go_wp2
    go_ret
    exact ⟨by rw [F.out]; rfl, BA.out _⟩
  have e3 : decide (x.n ≤ 1099511627776) = true := by simpa using c3
  have F : Hid (z = (chkA x.k x.nm.size x.tx.size x.m x.q == 0)) := hid (by
    rw [← hz.out]
    by_cases h : chkA x.k x.nm.size x.tx.size x.m x.q = 0
    · rw [h]; exact decide_eq_true (by omega)
    · rw [show entB x = false from decide_eq_false (by omega)]; symm; simpa using h)
  generalize chkA x.k x.nm.size x.tx.size x.m x.q = y at CK F
  clear c0 c1 c2 c3 hz
  go_enter Tryz.func111, Tryz.ntmps111
  go_wp2_with (go_at_call 78; refine (CK.out _ (BA.out _)).mono ?_; rintro e w1 ⟨rfl, hB1⟩; have B1 := hid hB1; clear hB1)
  go_ret
  exact ⟨by rw [F.out]; rfl, B1.out⟩
set_option maxRecDepth 1000000 in
theorem op110 {w : World} (f b : Int) (sa : Option Addr) (sl sp : Nat) (xa : Option Addr) (xl xp : Nat) (hb : 0 ≤ b ∧ b ≤ 1099511627776) (hx : (xl : Int) ≤ 64) : Calls Tryz.prog 110 #[cgV f b sa sl sp xa xl xp] w fun e w' => e = .returned (.int .i64 (b + (xl : Int))) ∧ Below w.heap.size w w' := by
  have hs : IntKind.i64.wrap (b + (xl : Int)) = b + (xl : Int) := by rw [IntKind.wrap_i64]; omega
  clear hb hx
  go_enter Tryz.func110, Tryz.ntmps110
  go_wp2
  go_ret
  exact ⟨rfl, ba _ _⟩
set_option maxHeartbeats 3200000 in
set_option maxRecDepth 1000000 in
theorem rcargo_any {w : World} (f b : Int) {sa xa : Option Addr} {ls : List Sh} {le : List Ent} (hs : Shs w sa ls) (he : Ents w xa le) (sp xp : Nat) (hls : ls.length ≤ 9223372036854775807) (hle : le.length ≤ 9223372036854775807) : Calls Tryz.prog 81 #[cgV f b sa ls.length sp xa le.length xp] w fun e w' => e = .returned (.int .i64 (cgE (cgB f b ls le))) ∧ Below w.heap.size w w' := by
  obtain ⟨r, hr⟩ : ∃ r, Hid (cgE (cgB f b ls le) = r) := ⟨_, hid rfl⟩
  rw [hr.out]
  have NO : Hid (opsB f b le.length = false → r = 100) := hid (fun h => by rw [← hr.out, cgB, h]; rfl)
  have BA : Hid (∀ ob, Below w.heap.size w (w.alloc ob)) := hid (fun ob => ba w ob)
  by_cases c0 : b < 0
  · have F : Hid (r = 100) := hid (NO.out (decide_eq_false (by omega)))
    have e0 : decide (b < 0) = true := by simpa using c0
    clear c0 hr NO hs he
    go_enter Tryz.func81, Tryz.ntmps81
    go_wp2
    go_ret
    exact ⟨by rw [F.out]; rfl, BA.out _⟩
  have e0 : decide (b < 0) = false := by simpa using c0
  by_cases c1 : 1099511627776 < b
  · have F : Hid (r = 100) := hid (NO.out (decide_eq_false (by omega)))
    have e1 : decide (1099511627776 < b) = true := by simpa using c1
    clear c0 c1 hr NO hs he
    go_enter Tryz.func81, Tryz.ntmps81
    go_wp2
    go_ret
    exact ⟨by rw [F.out]; rfl, BA.out _⟩
  have e1 : decide (1099511627776 < b) = false := by simpa using c1
  by_cases c2 : f < 0
  · have F : Hid (r = 100) := hid (NO.out (decide_eq_false (by omega)))
    have e2 : decide (f < 0) = true := by simpa using c2
    clear c0 c1 c2 hr NO hs he
    go_enter Tryz.func81, Tryz.ntmps81
    go_wp2
    go_ret
    exact ⟨by rw [F.out]; rfl, BA.out _⟩
  have e2 : decide (f < 0) = false := by simpa using c2
  by_cases c3 : b < f
  · have F : Hid (r = 100) := hid (NO.out (decide_eq_false (by omega)))
    have e3 : decide (b < f) = true := by simpa using c3
    clear c0 c1 c2 c3 hr NO hs he
    go_enter Tryz.func81, Tryz.ntmps81
    go_wp2
    go_ret
    exact ⟨by rw [F.out]; rfl, BA.out _⟩
  have e3 : decide (b < f) = false := by simpa using c3
  by_cases c4 : (64 : Int) < (le.length : Int)
  · have F : Hid (r = 100) := hid (NO.out (decide_eq_false (by omega)))
    have e4 : decide ((64 : Int) < (le.length : Int)) = true := by simpa using c4
    clear c0 c1 c2 c3 c4 hr NO hs he
    go_enter Tryz.func81, Tryz.ntmps81
    go_wp2
    go_ret
    exact ⟨by rw [F.out]; rfl, BA.out _⟩
  have e4 : decide ((64 : Int) < (le.length : Int)) = false := by simpa using c4
  obtain ⟨w0, hw0⟩ : ∃ w0, Hid (w.alloc (.cells #[.int .i64 f, .int .i64 b, .slice sa ls.length sp, .slice xa le.length xp] 32) = w0) := ⟨_, hid rfl⟩
  obtain ⟨K, hK⟩ : ∃ K, Hid (w.heap.size = K) := ⟨_, hid rfl⟩
  have Q0 : Hid (w0.cell? ⟨K, 0, none⟩ = some (.int .i64 f)) := hid (by rw [← hw0.out, ← hK.out]; simp)
  have Q1 : Hid (w0.cell? ⟨K, 1, none⟩ = some (.int .i64 b)) := hid (by rw [← hw0.out, ← hK.out]; simp)
  have Q2 : Hid (w0.cell? ⟨K, 2, none⟩ = some (.slice sa ls.length sp)) := hid (by rw [← hw0.out, ← hK.out]; simp)
  have Q3 : Hid (w0.cell? ⟨K, 3, none⟩ = some (.slice xa le.length xp)) := hid (by rw [← hw0.out, ← hK.out]; simp)
  have KW : Hid (K < w0.heap.size) := hid (by rw [← hw0.out, ← hK.out]; simp)
  have bw : Hid (Below w.heap.size w w0) := hid (by rw [← hw0.out]; exact ba _ _)
  have BW : Hid (∀ W, Below w0.heap.size w0 W → Below w.heap.size w W) := hid (fun W hW => bw.out.trans (hW.mono bw.out.size))
  have CO : Hid (∀ W, Below w0.heap.size w0 W → Calls Tryz.prog 110 #[cgV f b sa ls.length sp xa le.length xp] W fun e w' => e = .returned (.int .i64 (b + (le.length : Int))) ∧ Below w0.heap.size w0 w') := hid (fun W hW => (op110 f b sa ls.length sp xa le.length xp (by omega) (by omega)).mono fun e w' ⟨h1, h2⟩ => ⟨h1, hW.trans (h2.mono hW.size)⟩)
  have CM : Hid (∀ (x : Ent) (W : World), Below w0.heap.size w0 W → Calls Tryz.prog 111 #[x.V] W fun e w' => e = .returned (.bool (entB x)) ∧ Below w0.heap.size w0 w') := hid (fun x W hW => (may111 x).mono fun e w' ⟨h1, h2⟩ => ⟨h1, hW.trans (h2.mono hW.size)⟩)
  have HS := hid (hs.later bw.out)
  have HE := hid (he.later bw.out)
  have q0 := Q0.out
  have q1 := Q1.out
  have q2 := Q2.out
  have q3 := Q3.out
  have YN : Hid ((1099511627776 < b + (le.length : Int) → r = 100) ∧ (¬ 1099511627776 < b + (le.length : Int) → cgE (shsB f b (-1) ls && le.all entB) = r)) := hid ⟨fun h => NO.out (decide_eq_false (by omega)), fun h => by rw [← hr.out, cgB, show opsB f b le.length = true from decide_eq_true (by omega)]; rfl⟩
  clear c0 c1 c2 c3 c4 hs he NO hr
  go_enter Tryz.func81, Tryz.ntmps81
  go_upto_region 1 with fail
  rw [hw0.out, hK.out]
  go_wp2_with fail
  refine (CO.out _ (Below.refl _ _)).mono ?_
  rintro e w1 ⟨rfl, B1⟩
  have B1 := hid B1
  clear q0 q1 q2 q3 hw0 CO
  generalize b + (le.length : Int) = sm at YN ⊢
  by_cases c5 : 1099511627776 < sm
  · have F := hid (YN.out.1 c5)
    have e5 : decide (1099511627776 < sm) = true := by simpa using c5
    clear c5
    go_wp2
    go_ret
    exact ⟨by rw [F.out]; rfl, BW.out _ B1.out⟩
  have e5 : decide (1099511627776 < sm) = false := by simpa using c5
  have hr := hid (YN.out.2 (by omega))
  clear c5 YN
  go_wp2
  clear e0 e1 e2 e3 e4 e5
  go_loopw [3, 4] (fun lv iv wr => ∃ (k : Nat) (p : Int), lv = .int .i64 p ∧ iv = .int .i64 (k : Int) ∧ k ≤ ls.length ∧ Hid (shsB f b (-1) ls = shsB f b p (ls.drop k)) ∧ Hid (Below w0.heap.size w0 wr)) (fun _ iv _ => ls.length - (intOf iv).toNat)
  case atStart => exact ⟨0, -1, rfl, rfl, Nat.zero_le _, hid rfl, B1⟩
  case round =>
    clear B1
    obtain ⟨k, p, rfl, rfl, hk, hS, hB⟩ := hrel
    have t0 : wr.cell? ⟨K, 0, none⟩ = some (.int .i64 f) := cell_under hB.out KW.out Q0.out
    have t1 : wr.cell? ⟨K, 1, none⟩ = some (.int .i64 b) := cell_under hB.out KW.out Q1.out
    have t2 : wr.cell? ⟨K, 2, none⟩ = some (.slice sa ls.length sp) := cell_under hB.out KW.out Q2.out
    have hKw : K < wr.heap.size := Nat.lt_of_lt_of_le KW.out hB.out.size
    by_cases hlt : k < ls.length
    · obtain ⟨x, hx⟩ : ∃ x, Hid (ls[k]'hlt = x) := ⟨_, hid rfl⟩
      obtain ⟨g, o, ea, hg, hc⟩ := (HS.out.later hB.out) k x (by rw [List.getElem?_eq_getElem hlt, hx.out])
      subst ea
      have el : decide ((k : Int) < (ls.length : Int)) = true := by simpa using hlt
      have r0 : wr.cell? ⟨g, o + k * 3, none⟩ = some (.int .i64 x.n) := hc 0 _ rfl
      have r1 : wr.cell? ⟨g, o + k * 3 + 1, none⟩ = some (.int .i64 x.a) := hc 1 _ rfl
      have r2 : wr.cell? ⟨g, o + k * 3 + 2, none⟩ = some (.slice x.da x.dl x.dp) := hc 2 _ rfl
      have BB : Hid (∀ ob, Below w0.heap.size w0 (wr.alloc ob)) := hid (fun ob => hB.out.trans ((ba wr ob).mono hB.out.size))
      have ST : Hid (shsB f b (-1) ls = (decide (p < x.n ∧ x.n ≤ 15 ∧ f < x.a ∧ x.a ≤ b ∧ (x.dl : Int) ≤ 2304) && shsB f b x.n (ls.drop (k + 1)))) := hid (by rw [hS.out, List.drop_eq_getElem_cons hlt, hx.out]; rfl)
      clear hc hB hS
      by_cases c0 : x.n ≤ p
      · have F : Hid (r = 100) := hid (by rw [← hr.out, ST.out, decide_eq_false (by omega)]; rfl)
        have e0 : decide (x.n ≤ p) = true := by simpa using c0
        clear c0 hr ST
        go_wp2
        go_ret
        exact ⟨by rw [F.out]; rfl, BW.out _ (BB.out _)⟩
      have e0 : decide (x.n ≤ p) = false := by simpa using c0
      by_cases c1 : 15 < x.n
      · have F : Hid (r = 100) := hid (by rw [← hr.out, ST.out, decide_eq_false (by omega)]; rfl)
        have e1 : decide (15 < x.n) = true := by simpa using c1
        clear c0 c1 hr ST
        go_wp2
        go_ret
        exact ⟨by rw [F.out]; rfl, BW.out _ (BB.out _)⟩
      have e1 : decide (15 < x.n) = false := by simpa using c1
      by_cases c2 : x.a ≤ f
      · have F : Hid (r = 100) := hid (by rw [← hr.out, ST.out, decide_eq_false (by omega)]; rfl)
        have e2 : decide (x.a ≤ f) = true := by simpa using c2
        clear c0 c1 c2 hr ST
        go_wp2
        go_ret
        exact ⟨by rw [F.out]; rfl, BW.out _ (BB.out _)⟩
      have e2 : decide (x.a ≤ f) = false := by simpa using c2
      by_cases c3 : b < x.a
      · have F : Hid (r = 100) := hid (by rw [← hr.out, ST.out, decide_eq_false (by omega)]; rfl)
        have e3 : decide (b < x.a) = true := by simpa using c3
        clear c0 c1 c2 c3 hr ST
        go_wp2
        go_ret
        exact ⟨by rw [F.out]; rfl, BW.out _ (BB.out _)⟩
      have e3 : decide (b < x.a) = false := by simpa using c3
      by_cases c4 : (2304 : Int) < (x.dl : Int)
      · have F : Hid (r = 100) := hid (by rw [← hr.out, ST.out, decide_eq_false (by omega)]; rfl)
        have e4 : decide ((2304 : Int) < (x.dl : Int)) = true := by simpa using c4
        clear c0 c1 c2 c3 c4 hr ST
        go_wp2
        go_ret
        exact ⟨by rw [F.out]; rfl, BW.out _ (BB.out _)⟩
      have e4 : decide ((2304 : Int) < (x.dl : Int)) = false := by simpa using c4
      have F : Hid (shsB f b (-1) ls = shsB f b x.n (ls.drop (k + 1))) := hid (by rw [ST.out, decide_eq_true (by omega), Bool.true_and])
      clear c0 c1 c2 c3 c4 ST
      go_wp2
      go_roundw
      case rel => exact ⟨k + 1, x.n, rfl, by go_num, by omega, F, hid (BB.out _)⟩
      case measure => simp [intOf]; omega
    · have el : decide ((k : Int) < (ls.length : Int)) = false := by simp; omega
      have hr2 : Hid (cgE (le.all entB) = r) := hid (by rw [← hr.out, hS.out, List.drop_of_length_le (by omega)]; rfl)
      clear hr hS
      go_wp2
      clear t0 t1 t2 hKw el hlt
      go_loopw [6] (fun iv wr => ∃ (k : Nat), iv = .int .i64 (k : Int) ∧ k ≤ le.length ∧ Hid (∀ j (hj : j < k) (hl : j < le.length), entB le[j] = true) ∧ Hid (Below w0.heap.size w0 wr)) (fun iv _ => le.length - (intOf iv).toNat)
      case atStart => exact ⟨0, rfl, Nat.zero_le _, fun j hj => absurd hj (by omega), hB⟩
      case round =>
        clear hB hk
        obtain ⟨k, rfl, hk, hbef, hB⟩ := hrel
        have t3 : wr.cell? ⟨K, 3, none⟩ = some (.slice xa le.length xp) := cell_under hB.out KW.out Q3.out
        have hKw : K < wr.heap.size := Nat.lt_of_lt_of_le KW.out hB.out.size
        by_cases hlt : k < le.length
        · obtain ⟨x, hx⟩ : ∃ x, Hid (le[k]'hlt = x) := ⟨_, hid rfl⟩
          obtain ⟨g, o, ea, hg, hc⟩ := (HE.out.later hB.out) k x (by rw [List.getElem?_eq_getElem hlt, hx.out])
          subst ea
          have el : decide ((k : Int) < (le.length : Int)) = true := by simpa using hlt
          have r0 : wr.cell? ⟨g, o + k * 7, none⟩ = some (.int .i64 x.c) := hc 0 _ rfl
          have r1 : wr.cell? ⟨g, o + k * 7 + 1, none⟩ = some (.int .i64 x.n) := hc 1 _ rfl
          have r2 : wr.cell? ⟨g, o + k * 7 + 2, none⟩ = some (.int .i64 x.k) := hc 2 _ rfl
          have r3 : wr.cell? ⟨g, o + k * 7 + 3, none⟩ = some (.string x.nm) := hc 3 _ rfl
          have r4 : wr.cell? ⟨g, o + k * 7 + 4, none⟩ = some (.string x.tx) := hc 4 _ rfl
          have r5 : wr.cell? ⟨g, o + k * 7 + 5, none⟩ = some (.int .i64 x.m) := hc 5 _ rfl
          have r6 : wr.cell? ⟨g, o + k * 7 + 6, none⟩ = some (.int .i64 x.q) := hc 6 _ rfl
          have NX : Hid (entB x = false → r = 100) := hid (fun hf => by
            rw [← hr2.out, show le.all entB = false from List.all_eq_false.2 ⟨x, by rw [← hx.out]; exact List.getElem_mem hlt, by simp [hf]⟩]
            rfl)
          have CX := hid (CM.out x wr hB.out)
          have EX : Hid (entB x = entB x) := hid rfl
          obtain ⟨z, hz⟩ : ∃ z, Hid (entB x = z) := ⟨_, hid rfl⟩
          rw [hz.out] at CX NX
          clear hc EX
          cases z
          · have F := hid (NX.out rfl)
            go_wp2_with (go_at_call 111; refine CX.out.mono ?_; rintro e w2 ⟨rfl, hB2⟩; have B2 := hid hB2; clear hB2)
            go_ret
            exact ⟨by rw [F.out]; rfl, BW.out _ B2.out⟩
          · go_wp2_with (go_at_call 111; refine CX.out.mono ?_; rintro e w2 ⟨rfl, hB2⟩; have B2 := hid hB2; clear hB2)
            go_roundw
            case rel => exact ⟨k + 1, by go_num, by omega, fun j hj hl => by rcases Nat.lt_succ_iff_lt_or_eq.1 hj with h | h; exact hbef.out j h hl; subst h; rw [hx.out]; exact hz.out, B2⟩
            case measure => simp [intOf]; omega
        · have el : decide ((k : Int) < (le.length : Int)) = false := by simp; omega
          have F : Hid (r = 0) := hid (by
            rw [← hr2.out, show le.all entB = true from List.all_eq_true.2 (fun y hy => by obtain ⟨j, hj, rfl⟩ := List.getElem_of_mem hy; exact hbef.out j (by omega) hj)]
            rfl)
          go_wp2
          go_ret
          exact ⟨by rw [F.out]; rfl, BW.out _ hB.out⟩
end Go.Proofs.YthoppemjfdnibaaGreatDoor
