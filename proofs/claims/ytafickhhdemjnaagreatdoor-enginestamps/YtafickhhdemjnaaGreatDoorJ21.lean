import Derived.Test.YtafickhhdemjnaaGreatDoorJ20
import Derived.RangeFuncBox
import Derived.RangeFuncLeaves
import Derived.RangeFuncCalls
import Derived.RangeFuncNested
import Derived.Shelf.Abstract
import Derived.Shelf.RegionOpen
namespace Go.Proofs.YtafickhhdemjnaaGreatDoor
open Go.RowKit Go.Shelf Go.Sort
set_option linter.unusedVariables false

/-- What holds of the operations of region 4 that have come. -/
def Inv41 (k T Ba By p r lv kd x a : Nat) (b1 : Option Addr) (b2 b3 l : Nat) (W2 : World) (bs : List UInt8) (Rb : Bool → World → Prop) (G : Nat → Bool) (ac : Act) (w : World) : Prop :=
  ∃ t5 t20 t21 t22 t23 t24 t25 t26 t27 t28 t29 t30 t31 t32 t33 t34 t35 : Value, ac = { tmps := #[.int .i64 (k : Int), .pointer (some ⟨T, 0, none⟩), .pointer (some ⟨Ba, 0, none⟩), .pointer (some ⟨By, 0, none⟩), undef, t5, .pointer (some ⟨p, r, none⟩), .int .i64 (k : Int), .pointer (some ⟨p, r, none⟩), .int .i64 (k : Int), .bool true, .bool false, .bool false, .pointer (some ⟨p, r, none⟩), .pointer (some ⟨p, r, none⟩), .pointer (some ⟨p, r, none⟩), .int .i64 (x : Int), .int .i64 (a : Int), .bool false, .bool false, t20, t21, t22, t23, t24, t25, t26, t27, t28, t29, t30, t31, t32, t33, t34, t35], defers := [] } ∧ (G 0 = true → t20 = .func (.yield l) #[] #[]) ∧ (G 1 = true → t21 = .int .i64 (k : Int)) ∧ (G 2 = true → t22 = .pointer (some ⟨T, 0, none⟩)) ∧ (G 3 = true → t23 = .int .i64 (lv : Int)) ∧ (G 4 = true → t24 = .int .i64 (kd : Int)) ∧ (G 5 = true → t25 = .pointer (some ⟨p, r, none⟩)) ∧ (G 6 = true → t26 = .pointer (some ⟨p, r, none⟩)) ∧ (G 7 = true → t27 = .pointer (some ⟨p, r, none⟩)) ∧ (G 8 = true → t28 = .int .i64 (x : Int)) ∧ (G 9 = true → t29 = .pointer (some ⟨p, r, none⟩)) ∧ (G 10 = true → t30 = .pointer (some ⟨p, r, none⟩)) ∧ (G 11 = true → t31 = .pointer (some ⟨p, r + 1, none⟩)) ∧ (G 12 = true → t32 = .slice b1 b2 b3) ∧ (G 13 = false → w = W2.drew) ∧ (G 13 = true → G 15 = false → w.ownsRow W2.drew.heap.size 5 1 t33 bs.length (cellsB bs) ∧ Below W2.drew.heap.size W2.drew w) ∧ (G 14 = true → t34 = .agg #[.int .i64 (kd : Int), .int .i64 (x : Int), t33]) ∧ (G 15 = true → ∃ b, t35 = .bool b ∧ Rb b w) ∧ (G 16 = true → t5 = t35) ∧ (G 13 = true → G 12 = true) ∧ (G 4 = true → G 3 = true) ∧ (G 14 = true → G 4 = true ∧ G 8 = true ∧ G 13 = true) ∧ (G 15 = true → G 0 = true ∧ G 14 = true) ∧ (G 16 = true → G 15 = true)

/-- Where one operation goes on. -/
def QK (Q : Exit → Act → World → Prop) (K : Act → World → Prop) : Exit → Act → World → Prop
  | .normal, a, w => K a w
  | .ret, a, w => Q .ret a w
  | .exit i, a, w => Q (.exit i) a w
  | .goto i, a, w => Q (.goto i) a w
  | .panic c, a, w => Q (.panic c) a w
  | .outgrown, a, w => Q .outgrown a w

theorem wpOpIn_of {F : Fence} {n : Nat} {P : Program} {ops : Array Oper} {Q : Exit → Act → World → Prop} {K : Act → World → Prop} {i : Nat} {o : Oper} {a : Act} {w : World} (ho : ops[i]? = some o) (hg : o.guard = none) (h : wpListIn F n P ops (QK Q K) [o] a w) : wpOpIn F n P ops Q i K a w := by
  unfold wpOpIn
  rw [ho]
  simp only [wpListIn, Region.wanted, hg, if_true] at h ⊢
  unfold Oper.wpIn at h ⊢
  refine ⟨h.1, ?_⟩
  have h2 := h.2
  generalize (o.semAt F.round a.eval).run P w = r at *
  cases r with
  | ok y w' =>
    cases y <;> simp only [Oper.uponIn] at h2 ⊢ <;> first
      | exact h2
      | exact ⟨h2.1, h2.2.mono (fun e w'' he => by cases e <;> exact he)⟩
      | exact ⟨h2.1, h2.2⟩
  | halt y w' => cases y <;> simp only [Oper.uponIn] at h2 ⊢ <;> exact h2

set_option maxHeartbeats 4000000 in
theorem see41 {W : World} {T Ba By l k lv a n : Nat} {N : Nodes} {Rb : Bool → World → Prop} (hV : View W T 0 lv N) (hBa : W.cell? ⟨Ba, 0, none⟩ = some (.int .i64 (a : Int))) (hBy : W.cell? ⟨By, 0, none⟩ = some (.func (.yield l) #[] #[])) (hk : k < 128) (hlk : lv ≤ k) (ha : a < (N k).1) (hlen : (N k).2.2.length ≤ 2304)
    (hY : ∀ v W1, W1.ownsRow W.heap.size 5 1 v (N k).2.2.length (cellsB (N k).2.2) → Below W.heap.size W W1 → YieldAt Fence.wide n Tryz.prog l #[.agg #[.int .i64 ((k - lv : Nat) : Int), .int .i64 ((N k).1 : Int), v]] W1 fun e W' => ∃ b, e = .returned (.bool b) ∧ Rb b W') :
    CallsIn Fence.wide (n + 1) Tryz.prog 112 #[.int .i64 (k : Int), .pointer (some ⟨T, 0, none⟩), .pointer (some ⟨Ba, 0, none⟩), .pointer (some ⟨By, 0, none⟩)] W fun e W' => ∃ b, e = .returned (.bool b) ∧ Rb b W' := by
  obtain ⟨p, n1, n2, n3, n4⟩ := hV.node k hk
  have ND := hid (node_any hk n1)
  have lf := isLeaf_any (k := k) hV.leaves
  have hL := hV.leaves
  have e1 : IntKind.i64.wrap ((k : Int) - (lv : Int)) = ((k - lv : Nat) : Int) := by rw [IntKind.wrap_i64]; omega
  generalize k - lv = kd at *
  have LF : ∀ m, CallsIn Fence.wide n Tryz.prog 114 #[.pointer (some ⟨T, 0, none⟩), .int .i64 (k : Int)] (W.drewN m) fun e w'' => e = .returned (.bool true) ∧ ∃ m', w'' = W.drewN m' := fun m => callsIn_wide.2 ((isLeaf_any (k := k) (w := W.drewN m) hL).mono (fun e w' h => ⟨by rw [h.1]; simp; exact hlk, m, h.2⟩))
  have LF := hid LF
  have d1 : decide (((N k).1 : Int) ≤ (a : Int)) = false := by simp; omega
  have d2 : ¬ ((N k).1 : Int) ≤ (a : Int) := by omega
  have d3 : decide ((N k).1 ≤ a) = false := by simp; omega
  have Y := hid hY
  have C := fun m => Clone_any (n4.drewN m) (by omega)
  have C := hid C
  obtain ⟨b1, b2, b3, hb⟩ : ∃ b1 b2 b3, (N k).2.1 = .slice b1 b2 b3 := by
    obtain ⟨b1, b3, hb⟩ := n4.form
    exact ⟨_, _, _, hb⟩
  rw [hb] at n3 C
  generalize (N k).1 = x at *
  generalize (N k).2.2 = bs at *
  generalize k % 8 * 2 = r at *
  clear hY hV n1 n4 lf hk hlk ha hlen hb
  refine callsIn_of_wp Tryz.func112 rfl trivial ?_ rfl
  simp only [Tryz.ntmps112, List.size_toArray, List.length_cons, List.length_nil, Nat.reduceAdd, Nat.reduceSub, Array.replicate_succ, Array.replicate_zero, List.push_toArray, List.append_toArray, List.nil_append, List.cons_append]
  gi_wp2
  refine ⟨trivial, (callsIn_wide.2 ND.out).mono ?_⟩
  rintro e w' ⟨rfl, hw'⟩
  subst hw'
  have wfa : ∀ f, Fence.wide.fn f = True := fun _ => rfl
  gi_wp2
  refine wpIn_region_quiet_lit rfl (by kernel_rfl) (by kernel_rfl) ?_
  repeat (quiet_step_in (first | with_reducible exact LF.out _ ))
  refine wpQuietIn_nil ?_
  rintro w2 ⟨nq, rfl⟩
  have k1 : (w'.drewN nq).cell? ⟨Ba, 0, none⟩ = some (.int .i64 (a : Int)) := hBa
  have k2 : (w'.drewN nq).cell? ⟨By, 0, none⟩ = some (.func (.yield l) #[] #[]) := hBy
  have k3 : (w'.drewN nq).cell? ⟨T, 0, none⟩ = some (.int .i64 (lv : Int)) := hL
  have k4 : (w'.drewN nq).cell? ⟨p, r, none⟩ = some (.int .i64 (x : Int)) := n2
  have k5 : (w'.drewN nq).cell? ⟨p, r + 1, none⟩ = some (.slice b1 b2 b3) := n3
  have C2 : Hid (Calls Tryz.prog 115 #[.slice b1 b2 b3] (w'.drewN nq).drew fun e w'' => ∃ v, e = .returned v ∧ w''.ownsRow (w'.drewN nq).drew.heap.size 5 1 v bs.length (cellsB bs) ∧ Below (w'.drewN nq).drew.heap.size (w'.drewN nq).drew w'') := hid (C.out (nq + 1))
  have Y2 : Hid (∀ v W1, W1.ownsRow (w'.drewN nq).drew.heap.size 5 1 v bs.length (cellsB bs) → Below (w'.drewN nq).drew.heap.size (w'.drewN nq).drew W1 → ∃ a2 n2 c2 fn tmps assign body, v = .slice a2 n2 c2 ∧ (Instr.yield l #[.agg #[.int .i64 (kd : Int), .int .i64 (x : Int), .slice a2 n2 c2]]).run Tryz.prog W1 = .ok (.round l fn tmps assign body) W1 ∧ Hid (RoundIn Fence.wide n Tryz.prog l fn tmps assign body W1 fun e W' => ∃ b, e = .returned (.bool b) ∧ Rb b W')) := hid (fun v W1 ho hb => by
    obtain ⟨a2, c2, rfl⟩ := owns_form ho
    obtain ⟨fn, tmps, assign, body, h1, h2⟩ := Y.out _ W1 ho (((bdN w' nq).trans (bd (w'.drewN nq))).trans hb)
    exact ⟨_, _, _, fn, tmps, assign, body, rfl, h1, hid h2⟩)
  generalize w'.drewN nq = W2 at *
  clear wfa LF C Y ND n3 n2 hL hBy hBa
  gi_wp2
  refine region_inv (by kernel_rfl) (Inv41 k T Ba By p r lv kd x a b1 b2 b3 l W2 bs Rb) (lowB_spec (by kernel_rfl)) ?h0 ?hstep ?hdone
  case h0 => exact ⟨_, _, _, _, _, _, _, _, _, _, _, _, _, _, _, _, _, rfl, (fun h => by cases h), (fun h => by cases h), (fun h => by cases h), (fun h => by cases h), (fun h => by cases h), (fun h => by cases h), (fun h => by cases h), (fun h => by cases h), (fun h => by cases h), (fun h => by cases h), (fun h => by cases h), (fun h => by cases h), (fun h => by cases h), (fun _ => rfl), (fun h => by cases h), (fun h => by cases h), (fun h => by cases h), (fun h => by cases h), (fun h => by cases h), (fun h => by cases h), (fun h => by cases h), (fun h => by cases h), (fun h => by cases h)⟩
  case hdone =>
    rintro G ac w hG ⟨t5, t20, t21, t22, t23, t24, t25, t26, t27, t28, t29, t30, t31, t32, t33, t34, t35, rfl, g0, g1, g2, g3, g4, g5, g6, g7, g8, g9, g10, g11, g12, w1, w2, g14, g15, g16, c13, c4, c14, c15, c16⟩
    obtain ⟨b, e35, hb⟩ := g15 (hG 15 (by decide))
    have e5 := g16 (hG 16 (by decide))
    subst e5
    subst e35
    have HB := hid hb
    clear g0 g1 g2 g3 g4 g5 g6 g7 g8 g9 g10 g11 g12 w1 w2 g14 g15 g16 c13 c4 c14 c15 c16 hb hG
    gi_wp2
    refine bodyPost_ret (results_tmp rfl _ _ _) rfl ?_
    exact ⟨b, rfl, HB.out⟩
  case hstep =>
    intro G i o ac w ho hG hd hI
    have hi : i < 17 := (Array.getElem?_eq_some_iff.1 ho).1
    obtain ⟨t5, t20, t21, t22, t23, t24, t25, t26, t27, t28, t29, t30, t31, t32, t33, t34, t35, rfl, g0, g1, g2, g3, g4, g5, g6, g7, g8, g9, g10, g11, g12, w1, w2, g14, g15, g16, c13, c4, c14, c15, c16⟩ := hI
    have hbw : G 15 = false → Below W2.drew.heap.size W2.drew w := fun h15 => by
      cases h13 : G 13 with
      | false => rw [w1 h13]; exact Below.refl _ _
      | true => exact (w2 h13 h15).2
    have hcs : i = 0 ∨ i = 1 ∨ i = 2 ∨ i = 3 ∨ i = 4 ∨ i = 5 ∨ i = 6 ∨ i = 7 ∨ i = 8 ∨ i = 9 ∨ i = 10 ∨ i = 11 ∨ i = 12 ∨ i = 13 ∨ i = 14 ∨ i = 15 ∨ i = 16 := by omega
    rcases hcs with rfl | rfl | rfl | rfl | rfl | rfl | rfl | rfl | rfl | rfl | rfl | rfl | rfl | rfl | rfl | rfl | rfl
    · have ho : _ = o := Option.some.inj ho
      subst ho
      have h15 : G 15 = false := by cases h : G 15 with | false => rfl | true => rw [(c15 h).1] at hG; cases hG
      have jj := cell_under (hbw h15) (lt_of_cell k2) k2
      have HH := hid (show _ ∧ _ ∧ _ ∧ _ ∧ _ ∧ _ ∧ _ ∧ _ ∧ _ ∧ _ ∧ _ ∧ _ ∧ _ ∧ _ ∧ _ ∧ _ ∧ _ ∧ _ ∧ _ ∧ _ ∧ _ ∧ _ ∧ _ from ⟨g0, g1, g2, g3, g4, g5, g6, g7, g8, g9, g10, g11, g12, w1, w2, g14, g15, g16, c13, c4, c14, c15, c16⟩)
      clear g0 g1 g2 g3 g4 g5 g6 g7 g8 g9 g10 g11 g12 w1 w2 g14 g15 g16 c13 c4 c14 c15 c16 hbw hd
      refine wpOpIn_of rfl rfl ?_
      gi_wp2
      obtain ⟨g0, g1, g2, g3, g4, g5, g6, g7, g8, g9, g10, g11, g12, w1, w2, g14, g15, g16, c13, c4, c14, c15, c16⟩ := HH.out
      exact ⟨_, _, _, _, _, _, _, _, _, _, _, _, _, _, _, _, _, rfl, (fun _ => rfl), (fun h => g1 (by simpa using h)), (fun h => g2 (by simpa using h)), (fun h => g3 (by simpa using h)), (fun h => g4 (by simpa using h)), (fun h => g5 (by simpa using h)), (fun h => g6 (by simpa using h)), (fun h => g7 (by simpa using h)), (fun h => g8 (by simpa using h)), (fun h => g9 (by simpa using h)), (fun h => g10 (by simpa using h)), (fun h => g11 (by simpa using h)), (fun h => g12 (by simpa using h)), (fun h => w1 (by simpa using h)), (fun h h2 => w2 (by simpa using h) (by simpa using h2)), (fun h => g14 (by simpa using h)), (fun h => g15 (by simpa using h)), (fun h => g16 (by simpa using h)), (fun h => (by have := (c13 (by simpa using h)); simpa using this)), (fun h => (by have := (c4 (by simpa using h)); simpa using this)), (fun h => ⟨by have := (c14 (by simpa using h)).1; simpa using this, by have := (c14 (by simpa using h)).2.1; simpa using this, by have := (c14 (by simpa using h)).2.2; simpa using this⟩), (fun h => ⟨by simp, by have := (c15 (by simpa using h)).2; simpa using this⟩), (fun h => (by have := (c16 (by simpa using h)); simpa using this))⟩
    · have ho : _ = o := Option.some.inj ho
      subst ho
      have HH := hid (show _ ∧ _ ∧ _ ∧ _ ∧ _ ∧ _ ∧ _ ∧ _ ∧ _ ∧ _ ∧ _ ∧ _ ∧ _ ∧ _ ∧ _ ∧ _ ∧ _ ∧ _ ∧ _ ∧ _ ∧ _ ∧ _ ∧ _ from ⟨g0, g1, g2, g3, g4, g5, g6, g7, g8, g9, g10, g11, g12, w1, w2, g14, g15, g16, c13, c4, c14, c15, c16⟩)
      clear g0 g1 g2 g3 g4 g5 g6 g7 g8 g9 g10 g11 g12 w1 w2 g14 g15 g16 c13 c4 c14 c15 c16 hbw hd
      refine wpOpIn_of rfl rfl ?_
      gi_wp2
      obtain ⟨g0, g1, g2, g3, g4, g5, g6, g7, g8, g9, g10, g11, g12, w1, w2, g14, g15, g16, c13, c4, c14, c15, c16⟩ := HH.out
      exact ⟨_, _, _, _, _, _, _, _, _, _, _, _, _, _, _, _, _, rfl, (fun h => g0 (by simpa using h)), (fun _ => rfl), (fun h => g2 (by simpa using h)), (fun h => g3 (by simpa using h)), (fun h => g4 (by simpa using h)), (fun h => g5 (by simpa using h)), (fun h => g6 (by simpa using h)), (fun h => g7 (by simpa using h)), (fun h => g8 (by simpa using h)), (fun h => g9 (by simpa using h)), (fun h => g10 (by simpa using h)), (fun h => g11 (by simpa using h)), (fun h => g12 (by simpa using h)), (fun h => w1 (by simpa using h)), (fun h h2 => w2 (by simpa using h) (by simpa using h2)), (fun h => g14 (by simpa using h)), (fun h => g15 (by simpa using h)), (fun h => g16 (by simpa using h)), (fun h => (by have := (c13 (by simpa using h)); simpa using this)), (fun h => (by have := (c4 (by simpa using h)); simpa using this)), (fun h => ⟨by have := (c14 (by simpa using h)).1; simpa using this, by have := (c14 (by simpa using h)).2.1; simpa using this, by have := (c14 (by simpa using h)).2.2; simpa using this⟩), (fun h => ⟨by have := (c15 (by simpa using h)).1; simpa using this, by have := (c15 (by simpa using h)).2; simpa using this⟩), (fun h => (by have := (c16 (by simpa using h)); simpa using this))⟩
    · have ho : _ = o := Option.some.inj ho
      subst ho
      have HH := hid (show _ ∧ _ ∧ _ ∧ _ ∧ _ ∧ _ ∧ _ ∧ _ ∧ _ ∧ _ ∧ _ ∧ _ ∧ _ ∧ _ ∧ _ ∧ _ ∧ _ ∧ _ ∧ _ ∧ _ ∧ _ ∧ _ ∧ _ from ⟨g0, g1, g2, g3, g4, g5, g6, g7, g8, g9, g10, g11, g12, w1, w2, g14, g15, g16, c13, c4, c14, c15, c16⟩)
      clear g0 g1 g2 g3 g4 g5 g6 g7 g8 g9 g10 g11 g12 w1 w2 g14 g15 g16 c13 c4 c14 c15 c16 hbw hd
      refine wpOpIn_of rfl rfl ?_
      gi_wp2
      obtain ⟨g0, g1, g2, g3, g4, g5, g6, g7, g8, g9, g10, g11, g12, w1, w2, g14, g15, g16, c13, c4, c14, c15, c16⟩ := HH.out
      exact ⟨_, _, _, _, _, _, _, _, _, _, _, _, _, _, _, _, _, rfl, (fun h => g0 (by simpa using h)), (fun h => g1 (by simpa using h)), (fun _ => rfl), (fun h => g3 (by simpa using h)), (fun h => g4 (by simpa using h)), (fun h => g5 (by simpa using h)), (fun h => g6 (by simpa using h)), (fun h => g7 (by simpa using h)), (fun h => g8 (by simpa using h)), (fun h => g9 (by simpa using h)), (fun h => g10 (by simpa using h)), (fun h => g11 (by simpa using h)), (fun h => g12 (by simpa using h)), (fun h => w1 (by simpa using h)), (fun h h2 => w2 (by simpa using h) (by simpa using h2)), (fun h => g14 (by simpa using h)), (fun h => g15 (by simpa using h)), (fun h => g16 (by simpa using h)), (fun h => (by have := (c13 (by simpa using h)); simpa using this)), (fun h => (by have := (c4 (by simpa using h)); simpa using this)), (fun h => ⟨by have := (c14 (by simpa using h)).1; simpa using this, by have := (c14 (by simpa using h)).2.1; simpa using this, by have := (c14 (by simpa using h)).2.2; simpa using this⟩), (fun h => ⟨by have := (c15 (by simpa using h)).1; simpa using this, by have := (c15 (by simpa using h)).2; simpa using this⟩), (fun h => (by have := (c16 (by simpa using h)); simpa using this))⟩
    · have ho : _ = o := Option.some.inj ho
      subst ho
      have d2 : G 2 = true := hd ⟨2, .data⟩ (by simp) rfl
      obtain rfl := g2 d2
      have h15 : G 15 = false := by cases h : G 15 with | false => rfl | true => rw [c4 (c14 (c15 h).2).1] at hG; cases hG
      have jj := cell_under (hbw h15) (lt_of_cell k3) k3
      have HH := hid (show _ ∧ _ ∧ _ ∧ _ ∧ _ ∧ _ ∧ _ ∧ _ ∧ _ ∧ _ ∧ _ ∧ _ ∧ _ ∧ _ ∧ _ ∧ _ ∧ _ ∧ _ ∧ _ ∧ _ ∧ _ ∧ _ ∧ _ from ⟨g0, g1, g2, g3, g4, g5, g6, g7, g8, g9, g10, g11, g12, w1, w2, g14, g15, g16, c13, c4, c14, c15, c16⟩)
      clear g0 g1 g2 g3 g4 g5 g6 g7 g8 g9 g10 g11 g12 w1 w2 g14 g15 g16 c13 c4 c14 c15 c16 hbw hd
      refine wpOpIn_of rfl rfl ?_
      gi_wp2
      obtain ⟨g0, g1, g2, g3, g4, g5, g6, g7, g8, g9, g10, g11, g12, w1, w2, g14, g15, g16, c13, c4, c14, c15, c16⟩ := HH.out
      exact ⟨_, _, _, _, _, _, _, _, _, _, _, _, _, _, _, _, _, rfl, (fun h => g0 (by simpa using h)), (fun h => g1 (by simpa using h)), (fun _ => rfl), (fun _ => rfl), (fun h => g4 (by simpa using h)), (fun h => g5 (by simpa using h)), (fun h => g6 (by simpa using h)), (fun h => g7 (by simpa using h)), (fun h => g8 (by simpa using h)), (fun h => g9 (by simpa using h)), (fun h => g10 (by simpa using h)), (fun h => g11 (by simpa using h)), (fun h => g12 (by simpa using h)), (fun h => w1 (by simpa using h)), (fun h h2 => w2 (by simpa using h) (by simpa using h2)), (fun h => g14 (by simpa using h)), (fun h => g15 (by simpa using h)), (fun h => g16 (by simpa using h)), (fun h => (by have := (c13 (by simpa using h)); simpa using this)), (fun h => (by simp)), (fun h => ⟨by have := (c14 (by simpa using h)).1; simpa using this, by have := (c14 (by simpa using h)).2.1; simpa using this, by have := (c14 (by simpa using h)).2.2; simpa using this⟩), (fun h => ⟨by have := (c15 (by simpa using h)).1; simpa using this, by have := (c15 (by simpa using h)).2; simpa using this⟩), (fun h => (by have := (c16 (by simpa using h)); simpa using this))⟩
    · have ho : _ = o := Option.some.inj ho
      subst ho
      have d1 : G 1 = true := hd ⟨1, .data⟩ (by simp) rfl
      have d3 : G 3 = true := hd ⟨3, .data⟩ (by simp) rfl
      obtain rfl := g1 d1
      obtain rfl := g3 d3
      have HH := hid (show _ ∧ _ ∧ _ ∧ _ ∧ _ ∧ _ ∧ _ ∧ _ ∧ _ ∧ _ ∧ _ ∧ _ ∧ _ ∧ _ ∧ _ ∧ _ ∧ _ ∧ _ ∧ _ ∧ _ ∧ _ ∧ _ ∧ _ from ⟨g0, g1, g2, g3, g4, g5, g6, g7, g8, g9, g10, g11, g12, w1, w2, g14, g15, g16, c13, c4, c14, c15, c16⟩)
      clear g0 g1 g2 g3 g4 g5 g6 g7 g8 g9 g10 g11 g12 w1 w2 g14 g15 g16 c13 c4 c14 c15 c16 hbw hd
      refine wpOpIn_of rfl rfl ?_
      gi_wp2
      obtain ⟨g0, g1, g2, g3, g4, g5, g6, g7, g8, g9, g10, g11, g12, w1, w2, g14, g15, g16, c13, c4, c14, c15, c16⟩ := HH.out
      exact ⟨_, _, _, _, _, _, _, _, _, _, _, _, _, _, _, _, _, rfl, (fun h => g0 (by simpa using h)), (fun _ => rfl), (fun h => g2 (by simpa using h)), (fun _ => rfl), (fun _ => rfl), (fun h => g5 (by simpa using h)), (fun h => g6 (by simpa using h)), (fun h => g7 (by simpa using h)), (fun h => g8 (by simpa using h)), (fun h => g9 (by simpa using h)), (fun h => g10 (by simpa using h)), (fun h => g11 (by simpa using h)), (fun h => g12 (by simpa using h)), (fun h => w1 (by simpa using h)), (fun h h2 => w2 (by simpa using h) (by simpa using h2)), (fun h => g14 (by simpa using h)), (fun h => g15 (by simpa using h)), (fun h => g16 (by simpa using h)), (fun h => (by have := (c13 (by simpa using h)); simpa using this)), (fun _ => (by simp [d3])), (fun h => ⟨by simp, by have := (c14 (by simpa using h)).2.1; simpa using this, by have := (c14 (by simpa using h)).2.2; simpa using this⟩), (fun h => ⟨by have := (c15 (by simpa using h)).1; simpa using this, by have := (c15 (by simpa using h)).2; simpa using this⟩), (fun h => (by have := (c16 (by simpa using h)); simpa using this))⟩
    · have ho : _ = o := Option.some.inj ho
      subst ho
      have HH := hid (show _ ∧ _ ∧ _ ∧ _ ∧ _ ∧ _ ∧ _ ∧ _ ∧ _ ∧ _ ∧ _ ∧ _ ∧ _ ∧ _ ∧ _ ∧ _ ∧ _ ∧ _ ∧ _ ∧ _ ∧ _ ∧ _ ∧ _ from ⟨g0, g1, g2, g3, g4, g5, g6, g7, g8, g9, g10, g11, g12, w1, w2, g14, g15, g16, c13, c4, c14, c15, c16⟩)
      clear g0 g1 g2 g3 g4 g5 g6 g7 g8 g9 g10 g11 g12 w1 w2 g14 g15 g16 c13 c4 c14 c15 c16 hbw hd
      refine wpOpIn_of rfl rfl ?_
      gi_wp2
      obtain ⟨g0, g1, g2, g3, g4, g5, g6, g7, g8, g9, g10, g11, g12, w1, w2, g14, g15, g16, c13, c4, c14, c15, c16⟩ := HH.out
      exact ⟨_, _, _, _, _, _, _, _, _, _, _, _, _, _, _, _, _, rfl, (fun h => g0 (by simpa using h)), (fun h => g1 (by simpa using h)), (fun h => g2 (by simpa using h)), (fun h => g3 (by simpa using h)), (fun h => g4 (by simpa using h)), (fun _ => rfl), (fun h => g6 (by simpa using h)), (fun h => g7 (by simpa using h)), (fun h => g8 (by simpa using h)), (fun h => g9 (by simpa using h)), (fun h => g10 (by simpa using h)), (fun h => g11 (by simpa using h)), (fun h => g12 (by simpa using h)), (fun h => w1 (by simpa using h)), (fun h h2 => w2 (by simpa using h) (by simpa using h2)), (fun h => g14 (by simpa using h)), (fun h => g15 (by simpa using h)), (fun h => g16 (by simpa using h)), (fun h => (by have := (c13 (by simpa using h)); simpa using this)), (fun h => (by have := (c4 (by simpa using h)); simpa using this)), (fun h => ⟨by have := (c14 (by simpa using h)).1; simpa using this, by have := (c14 (by simpa using h)).2.1; simpa using this, by have := (c14 (by simpa using h)).2.2; simpa using this⟩), (fun h => ⟨by have := (c15 (by simpa using h)).1; simpa using this, by have := (c15 (by simpa using h)).2; simpa using this⟩), (fun h => (by have := (c16 (by simpa using h)); simpa using this))⟩
    · have ho : _ = o := Option.some.inj ho
      subst ho
      have d5 : G 5 = true := hd ⟨5, .data⟩ (by simp) rfl
      obtain rfl := g5 d5
      have HH := hid (show _ ∧ _ ∧ _ ∧ _ ∧ _ ∧ _ ∧ _ ∧ _ ∧ _ ∧ _ ∧ _ ∧ _ ∧ _ ∧ _ ∧ _ ∧ _ ∧ _ ∧ _ ∧ _ ∧ _ ∧ _ ∧ _ ∧ _ from ⟨g0, g1, g2, g3, g4, g5, g6, g7, g8, g9, g10, g11, g12, w1, w2, g14, g15, g16, c13, c4, c14, c15, c16⟩)
      clear g0 g1 g2 g3 g4 g5 g6 g7 g8 g9 g10 g11 g12 w1 w2 g14 g15 g16 c13 c4 c14 c15 c16 hbw hd
      refine wpOpIn_of rfl rfl ?_
      gi_wp2
      obtain ⟨g0, g1, g2, g3, g4, g5, g6, g7, g8, g9, g10, g11, g12, w1, w2, g14, g15, g16, c13, c4, c14, c15, c16⟩ := HH.out
      exact ⟨_, _, _, _, _, _, _, _, _, _, _, _, _, _, _, _, _, rfl, (fun h => g0 (by simpa using h)), (fun h => g1 (by simpa using h)), (fun h => g2 (by simpa using h)), (fun h => g3 (by simpa using h)), (fun h => g4 (by simpa using h)), (fun _ => rfl), (fun _ => rfl), (fun h => g7 (by simpa using h)), (fun h => g8 (by simpa using h)), (fun h => g9 (by simpa using h)), (fun h => g10 (by simpa using h)), (fun h => g11 (by simpa using h)), (fun h => g12 (by simpa using h)), (fun h => w1 (by simpa using h)), (fun h h2 => w2 (by simpa using h) (by simpa using h2)), (fun h => g14 (by simpa using h)), (fun h => g15 (by simpa using h)), (fun h => g16 (by simpa using h)), (fun h => (by have := (c13 (by simpa using h)); simpa using this)), (fun h => (by have := (c4 (by simpa using h)); simpa using this)), (fun h => ⟨by have := (c14 (by simpa using h)).1; simpa using this, by have := (c14 (by simpa using h)).2.1; simpa using this, by have := (c14 (by simpa using h)).2.2; simpa using this⟩), (fun h => ⟨by have := (c15 (by simpa using h)).1; simpa using this, by have := (c15 (by simpa using h)).2; simpa using this⟩), (fun h => (by have := (c16 (by simpa using h)); simpa using this))⟩
    · have ho : _ = o := Option.some.inj ho
      subst ho
      have d6 : G 6 = true := hd ⟨6, .data⟩ (by simp) rfl
      obtain rfl := g6 d6
      have HH := hid (show _ ∧ _ ∧ _ ∧ _ ∧ _ ∧ _ ∧ _ ∧ _ ∧ _ ∧ _ ∧ _ ∧ _ ∧ _ ∧ _ ∧ _ ∧ _ ∧ _ ∧ _ ∧ _ ∧ _ ∧ _ ∧ _ ∧ _ from ⟨g0, g1, g2, g3, g4, g5, g6, g7, g8, g9, g10, g11, g12, w1, w2, g14, g15, g16, c13, c4, c14, c15, c16⟩)
      clear g0 g1 g2 g3 g4 g5 g6 g7 g8 g9 g10 g11 g12 w1 w2 g14 g15 g16 c13 c4 c14 c15 c16 hbw hd
      refine wpOpIn_of rfl rfl ?_
      gi_wp2
      obtain ⟨g0, g1, g2, g3, g4, g5, g6, g7, g8, g9, g10, g11, g12, w1, w2, g14, g15, g16, c13, c4, c14, c15, c16⟩ := HH.out
      exact ⟨_, _, _, _, _, _, _, _, _, _, _, _, _, _, _, _, _, rfl, (fun h => g0 (by simpa using h)), (fun h => g1 (by simpa using h)), (fun h => g2 (by simpa using h)), (fun h => g3 (by simpa using h)), (fun h => g4 (by simpa using h)), (fun h => g5 (by simpa using h)), (fun _ => rfl), (fun _ => rfl), (fun h => g8 (by simpa using h)), (fun h => g9 (by simpa using h)), (fun h => g10 (by simpa using h)), (fun h => g11 (by simpa using h)), (fun h => g12 (by simpa using h)), (fun h => w1 (by simpa using h)), (fun h h2 => w2 (by simpa using h) (by simpa using h2)), (fun h => g14 (by simpa using h)), (fun h => g15 (by simpa using h)), (fun h => g16 (by simpa using h)), (fun h => (by have := (c13 (by simpa using h)); simpa using this)), (fun h => (by have := (c4 (by simpa using h)); simpa using this)), (fun h => ⟨by have := (c14 (by simpa using h)).1; simpa using this, by have := (c14 (by simpa using h)).2.1; simpa using this, by have := (c14 (by simpa using h)).2.2; simpa using this⟩), (fun h => ⟨by have := (c15 (by simpa using h)).1; simpa using this, by have := (c15 (by simpa using h)).2; simpa using this⟩), (fun h => (by have := (c16 (by simpa using h)); simpa using this))⟩
    · have ho : _ = o := Option.some.inj ho
      subst ho
      have d7 : G 7 = true := hd ⟨7, .data⟩ (by simp) rfl
      obtain rfl := g7 d7
      have h15 : G 15 = false := by cases h : G 15 with | false => rfl | true => rw [(c14 (c15 h).2).2.1] at hG; cases hG
      have jj := cell_under (hbw h15) (lt_of_cell k4) k4
      have HH := hid (show _ ∧ _ ∧ _ ∧ _ ∧ _ ∧ _ ∧ _ ∧ _ ∧ _ ∧ _ ∧ _ ∧ _ ∧ _ ∧ _ ∧ _ ∧ _ ∧ _ ∧ _ ∧ _ ∧ _ ∧ _ ∧ _ ∧ _ from ⟨g0, g1, g2, g3, g4, g5, g6, g7, g8, g9, g10, g11, g12, w1, w2, g14, g15, g16, c13, c4, c14, c15, c16⟩)
      clear g0 g1 g2 g3 g4 g5 g6 g7 g8 g9 g10 g11 g12 w1 w2 g14 g15 g16 c13 c4 c14 c15 c16 hbw hd
      refine wpOpIn_of rfl rfl ?_
      gi_wp2
      obtain ⟨g0, g1, g2, g3, g4, g5, g6, g7, g8, g9, g10, g11, g12, w1, w2, g14, g15, g16, c13, c4, c14, c15, c16⟩ := HH.out
      exact ⟨_, _, _, _, _, _, _, _, _, _, _, _, _, _, _, _, _, rfl, (fun h => g0 (by simpa using h)), (fun h => g1 (by simpa using h)), (fun h => g2 (by simpa using h)), (fun h => g3 (by simpa using h)), (fun h => g4 (by simpa using h)), (fun h => g5 (by simpa using h)), (fun h => g6 (by simpa using h)), (fun _ => rfl), (fun _ => rfl), (fun h => g9 (by simpa using h)), (fun h => g10 (by simpa using h)), (fun h => g11 (by simpa using h)), (fun h => g12 (by simpa using h)), (fun h => w1 (by simpa using h)), (fun h h2 => w2 (by simpa using h) (by simpa using h2)), (fun h => g14 (by simpa using h)), (fun h => g15 (by simpa using h)), (fun h => g16 (by simpa using h)), (fun h => (by have := (c13 (by simpa using h)); simpa using this)), (fun h => (by have := (c4 (by simpa using h)); simpa using this)), (fun h => ⟨by have := (c14 (by simpa using h)).1; simpa using this, by simp, by have := (c14 (by simpa using h)).2.2; simpa using this⟩), (fun h => ⟨by have := (c15 (by simpa using h)).1; simpa using this, by have := (c15 (by simpa using h)).2; simpa using this⟩), (fun h => (by have := (c16 (by simpa using h)); simpa using this))⟩
    · have ho : _ = o := Option.some.inj ho
      subst ho
      have HH := hid (show _ ∧ _ ∧ _ ∧ _ ∧ _ ∧ _ ∧ _ ∧ _ ∧ _ ∧ _ ∧ _ ∧ _ ∧ _ ∧ _ ∧ _ ∧ _ ∧ _ ∧ _ ∧ _ ∧ _ ∧ _ ∧ _ ∧ _ from ⟨g0, g1, g2, g3, g4, g5, g6, g7, g8, g9, g10, g11, g12, w1, w2, g14, g15, g16, c13, c4, c14, c15, c16⟩)
      clear g0 g1 g2 g3 g4 g5 g6 g7 g8 g9 g10 g11 g12 w1 w2 g14 g15 g16 c13 c4 c14 c15 c16 hbw hd
      refine wpOpIn_of rfl rfl ?_
      gi_wp2
      obtain ⟨g0, g1, g2, g3, g4, g5, g6, g7, g8, g9, g10, g11, g12, w1, w2, g14, g15, g16, c13, c4, c14, c15, c16⟩ := HH.out
      exact ⟨_, _, _, _, _, _, _, _, _, _, _, _, _, _, _, _, _, rfl, (fun h => g0 (by simpa using h)), (fun h => g1 (by simpa using h)), (fun h => g2 (by simpa using h)), (fun h => g3 (by simpa using h)), (fun h => g4 (by simpa using h)), (fun h => g5 (by simpa using h)), (fun h => g6 (by simpa using h)), (fun h => g7 (by simpa using h)), (fun h => g8 (by simpa using h)), (fun _ => rfl), (fun h => g10 (by simpa using h)), (fun h => g11 (by simpa using h)), (fun h => g12 (by simpa using h)), (fun h => w1 (by simpa using h)), (fun h h2 => w2 (by simpa using h) (by simpa using h2)), (fun h => g14 (by simpa using h)), (fun h => g15 (by simpa using h)), (fun h => g16 (by simpa using h)), (fun h => (by have := (c13 (by simpa using h)); simpa using this)), (fun h => (by have := (c4 (by simpa using h)); simpa using this)), (fun h => ⟨by have := (c14 (by simpa using h)).1; simpa using this, by have := (c14 (by simpa using h)).2.1; simpa using this, by have := (c14 (by simpa using h)).2.2; simpa using this⟩), (fun h => ⟨by have := (c15 (by simpa using h)).1; simpa using this, by have := (c15 (by simpa using h)).2; simpa using this⟩), (fun h => (by have := (c16 (by simpa using h)); simpa using this))⟩
    · have ho : _ = o := Option.some.inj ho
      subst ho
      have d9 : G 9 = true := hd ⟨9, .data⟩ (by simp) rfl
      obtain rfl := g9 d9
      have HH := hid (show _ ∧ _ ∧ _ ∧ _ ∧ _ ∧ _ ∧ _ ∧ _ ∧ _ ∧ _ ∧ _ ∧ _ ∧ _ ∧ _ ∧ _ ∧ _ ∧ _ ∧ _ ∧ _ ∧ _ ∧ _ ∧ _ ∧ _ from ⟨g0, g1, g2, g3, g4, g5, g6, g7, g8, g9, g10, g11, g12, w1, w2, g14, g15, g16, c13, c4, c14, c15, c16⟩)
      clear g0 g1 g2 g3 g4 g5 g6 g7 g8 g9 g10 g11 g12 w1 w2 g14 g15 g16 c13 c4 c14 c15 c16 hbw hd
      refine wpOpIn_of rfl rfl ?_
      gi_wp2
      obtain ⟨g0, g1, g2, g3, g4, g5, g6, g7, g8, g9, g10, g11, g12, w1, w2, g14, g15, g16, c13, c4, c14, c15, c16⟩ := HH.out
      exact ⟨_, _, _, _, _, _, _, _, _, _, _, _, _, _, _, _, _, rfl, (fun h => g0 (by simpa using h)), (fun h => g1 (by simpa using h)), (fun h => g2 (by simpa using h)), (fun h => g3 (by simpa using h)), (fun h => g4 (by simpa using h)), (fun h => g5 (by simpa using h)), (fun h => g6 (by simpa using h)), (fun h => g7 (by simpa using h)), (fun h => g8 (by simpa using h)), (fun _ => rfl), (fun _ => rfl), (fun h => g11 (by simpa using h)), (fun h => g12 (by simpa using h)), (fun h => w1 (by simpa using h)), (fun h h2 => w2 (by simpa using h) (by simpa using h2)), (fun h => g14 (by simpa using h)), (fun h => g15 (by simpa using h)), (fun h => g16 (by simpa using h)), (fun h => (by have := (c13 (by simpa using h)); simpa using this)), (fun h => (by have := (c4 (by simpa using h)); simpa using this)), (fun h => ⟨by have := (c14 (by simpa using h)).1; simpa using this, by have := (c14 (by simpa using h)).2.1; simpa using this, by have := (c14 (by simpa using h)).2.2; simpa using this⟩), (fun h => ⟨by have := (c15 (by simpa using h)).1; simpa using this, by have := (c15 (by simpa using h)).2; simpa using this⟩), (fun h => (by have := (c16 (by simpa using h)); simpa using this))⟩
    · have ho : _ = o := Option.some.inj ho
      subst ho
      have d10 : G 10 = true := hd ⟨10, .data⟩ (by simp) rfl
      obtain rfl := g10 d10
      have HH := hid (show _ ∧ _ ∧ _ ∧ _ ∧ _ ∧ _ ∧ _ ∧ _ ∧ _ ∧ _ ∧ _ ∧ _ ∧ _ ∧ _ ∧ _ ∧ _ ∧ _ ∧ _ ∧ _ ∧ _ ∧ _ ∧ _ ∧ _ from ⟨g0, g1, g2, g3, g4, g5, g6, g7, g8, g9, g10, g11, g12, w1, w2, g14, g15, g16, c13, c4, c14, c15, c16⟩)
      clear g0 g1 g2 g3 g4 g5 g6 g7 g8 g9 g10 g11 g12 w1 w2 g14 g15 g16 c13 c4 c14 c15 c16 hbw hd
      refine wpOpIn_of rfl rfl ?_
      gi_wp2
      obtain ⟨g0, g1, g2, g3, g4, g5, g6, g7, g8, g9, g10, g11, g12, w1, w2, g14, g15, g16, c13, c4, c14, c15, c16⟩ := HH.out
      exact ⟨_, _, _, _, _, _, _, _, _, _, _, _, _, _, _, _, _, rfl, (fun h => g0 (by simpa using h)), (fun h => g1 (by simpa using h)), (fun h => g2 (by simpa using h)), (fun h => g3 (by simpa using h)), (fun h => g4 (by simpa using h)), (fun h => g5 (by simpa using h)), (fun h => g6 (by simpa using h)), (fun h => g7 (by simpa using h)), (fun h => g8 (by simpa using h)), (fun h => g9 (by simpa using h)), (fun _ => rfl), (fun _ => rfl), (fun h => g12 (by simpa using h)), (fun h => w1 (by simpa using h)), (fun h h2 => w2 (by simpa using h) (by simpa using h2)), (fun h => g14 (by simpa using h)), (fun h => g15 (by simpa using h)), (fun h => g16 (by simpa using h)), (fun h => (by have := (c13 (by simpa using h)); simpa using this)), (fun h => (by have := (c4 (by simpa using h)); simpa using this)), (fun h => ⟨by have := (c14 (by simpa using h)).1; simpa using this, by have := (c14 (by simpa using h)).2.1; simpa using this, by have := (c14 (by simpa using h)).2.2; simpa using this⟩), (fun h => ⟨by have := (c15 (by simpa using h)).1; simpa using this, by have := (c15 (by simpa using h)).2; simpa using this⟩), (fun h => (by have := (c16 (by simpa using h)); simpa using this))⟩
    · have ho : _ = o := Option.some.inj ho
      subst ho
      have d11 : G 11 = true := hd ⟨11, .data⟩ (by simp) rfl
      obtain rfl := g11 d11
      have h15 : G 15 = false := by cases h : G 15 with | false => rfl | true => rw [c13 (c14 (c15 h).2).2.2] at hG; cases hG
      have jj := cell_under (hbw h15) (lt_of_cell k5) k5
      have HH := hid (show _ ∧ _ ∧ _ ∧ _ ∧ _ ∧ _ ∧ _ ∧ _ ∧ _ ∧ _ ∧ _ ∧ _ ∧ _ ∧ _ ∧ _ ∧ _ ∧ _ ∧ _ ∧ _ ∧ _ ∧ _ ∧ _ ∧ _ from ⟨g0, g1, g2, g3, g4, g5, g6, g7, g8, g9, g10, g11, g12, w1, w2, g14, g15, g16, c13, c4, c14, c15, c16⟩)
      clear g0 g1 g2 g3 g4 g5 g6 g7 g8 g9 g10 g11 g12 w1 w2 g14 g15 g16 c13 c4 c14 c15 c16 hbw hd
      refine wpOpIn_of rfl rfl ?_
      gi_wp2
      obtain ⟨g0, g1, g2, g3, g4, g5, g6, g7, g8, g9, g10, g11, g12, w1, w2, g14, g15, g16, c13, c4, c14, c15, c16⟩ := HH.out
      exact ⟨_, _, _, _, _, _, _, _, _, _, _, _, _, _, _, _, _, rfl, (fun h => g0 (by simpa using h)), (fun h => g1 (by simpa using h)), (fun h => g2 (by simpa using h)), (fun h => g3 (by simpa using h)), (fun h => g4 (by simpa using h)), (fun h => g5 (by simpa using h)), (fun h => g6 (by simpa using h)), (fun h => g7 (by simpa using h)), (fun h => g8 (by simpa using h)), (fun h => g9 (by simpa using h)), (fun h => g10 (by simpa using h)), (fun _ => rfl), (fun _ => rfl), (fun h => w1 (by simpa using h)), (fun h h2 => w2 (by simpa using h) (by simpa using h2)), (fun h => g14 (by simpa using h)), (fun h => g15 (by simpa using h)), (fun h => g16 (by simpa using h)), (fun h => (by simp)), (fun h => (by have := (c4 (by simpa using h)); simpa using this)), (fun h => ⟨by have := (c14 (by simpa using h)).1; simpa using this, by have := (c14 (by simpa using h)).2.1; simpa using this, by have := (c14 (by simpa using h)).2.2; simpa using this⟩), (fun h => ⟨by have := (c15 (by simpa using h)).1; simpa using this, by have := (c15 (by simpa using h)).2; simpa using this⟩), (fun h => (by have := (c16 (by simpa using h)); simpa using this))⟩
    · have ho : _ = o := Option.some.inj ho
      subst ho
      have d12 : G 12 = true := hd ⟨12, .data⟩ (by simp) rfl
      obtain rfl := g12 d12
      have h15 : G 15 = false := by cases h : G 15 with | false => rfl | true => rw [(c14 (c15 h).2).2.2] at hG; cases hG
      have h14 : G 14 = false := by cases h : G 14 with | false => rfl | true => rw [(c14 h).2.2] at hG; cases hG
      have h16 : G 16 = false := by cases h : G 16 with | false => rfl | true => rw [c16 h] at h15; cases h15
      obtain rfl := w1 hG
      have HH := hid (show _ ∧ _ ∧ _ ∧ _ ∧ _ ∧ _ ∧ _ ∧ _ ∧ _ ∧ _ ∧ _ ∧ _ ∧ _ ∧ _ ∧ _ ∧ _ ∧ _ ∧ _ ∧ _ ∧ _ ∧ _ ∧ _ ∧ _ from ⟨g0, g1, g2, g3, g4, g5, g6, g7, g8, g9, g10, g11, g12, w1, w2, g14, g15, g16, c13, c4, c14, c15, c16⟩)
      clear g0 g1 g2 g3 g4 g5 g6 g7 g8 g9 g10 g11 g12 w1 w2 g14 g15 g16 c13 c4 c14 c15 c16 hbw hd
      refine wpOpIn_of rfl rfl ?_
      gi_wp2
      refine ⟨trivial, (callsIn_wide.2 C2.out).mono ?_⟩
      rintro e w3 ⟨v, rfl, ho3, hb3⟩
      obtain ⟨a2, c2, rfl⟩ := owns_form ho3
      have ho3 := hid ho3
      have hb3 := hid hb3
      gi_wp2
      obtain ⟨g0, g1, g2, g3, g4, g5, g6, g7, g8, g9, g10, g11, g12, w1, w2, g14, g15, g16, c13, c4, c14, c15, c16⟩ := HH.out
      exact ⟨_, _, _, _, _, _, _, _, _, _, _, _, _, _, _, _, _, rfl, (fun h => g0 (by simpa using h)), (fun h => g1 (by simpa using h)), (fun h => g2 (by simpa using h)), (fun h => g3 (by simpa using h)), (fun h => g4 (by simpa using h)), (fun h => g5 (by simpa using h)), (fun h => g6 (by simpa using h)), (fun h => g7 (by simpa using h)), (fun h => g8 (by simpa using h)), (fun h => g9 (by simpa using h)), (fun h => g10 (by simpa using h)), (fun h => g11 (by simpa using h)), (fun _ => rfl), (fun h => by simp at h), (fun _ _ => ⟨ho3.out, hb3.out⟩), (fun h => by simp [h14] at h), (fun h => by simp [h15] at h), (fun h => by simp [h16] at h), (fun _ => (by simp [d12])), (fun h => (by have := (c4 (by simpa using h)); simpa using this)), (fun h => ⟨by have := (c14 (by simpa using h)).1; simpa using this, by have := (c14 (by simpa using h)).2.1; simpa using this, by simp⟩), (fun h => ⟨by have := (c15 (by simpa using h)).1; simpa using this, by have := (c15 (by simpa using h)).2; simpa using this⟩), (fun h => (by have := (c16 (by simpa using h)); simpa using this))⟩
    · have ho : _ = o := Option.some.inj ho
      subst ho
      have d4 : G 4 = true := hd ⟨4, .data⟩ (by simp) rfl
      have d8 : G 8 = true := hd ⟨8, .data⟩ (by simp) rfl
      have d13 : G 13 = true := hd ⟨13, .data⟩ (by simp) rfl
      obtain rfl := g4 d4
      obtain rfl := g8 d8
      have h15 : G 15 = false := by cases h : G 15 with | false => rfl | true => rw [(c15 h).2] at hG; cases hG
      obtain ⟨ho13, hb13⟩ := w2 d13 h15
      obtain ⟨a2, c2, rfl⟩ := owns_form ho13
      have g13 := hid ho13
      have HH := hid (show _ ∧ _ ∧ _ ∧ _ ∧ _ ∧ _ ∧ _ ∧ _ ∧ _ ∧ _ ∧ _ ∧ _ ∧ _ ∧ _ ∧ _ ∧ _ ∧ _ ∧ _ ∧ _ ∧ _ ∧ _ ∧ _ ∧ _ from ⟨g0, g1, g2, g3, g4, g5, g6, g7, g8, g9, g10, g11, g12, w1, w2, g14, g15, g16, c13, c4, c14, c15, c16⟩)
      clear g0 g1 g2 g3 g4 g5 g6 g7 g8 g9 g10 g11 g12 w1 w2 g14 g15 g16 c13 c4 c14 c15 c16 hbw hd
      refine wpOpIn_of rfl rfl ?_
      gi_wp2
      obtain ⟨g0, g1, g2, g3, g4, g5, g6, g7, g8, g9, g10, g11, g12, w1, w2, g14, g15, g16, c13, c4, c14, c15, c16⟩ := HH.out
      exact ⟨_, _, _, _, _, _, _, _, _, _, _, _, _, _, _, _, _, rfl, (fun h => g0 (by simpa using h)), (fun h => g1 (by simpa using h)), (fun h => g2 (by simpa using h)), (fun h => g3 (by simpa using h)), (fun _ => rfl), (fun h => g5 (by simpa using h)), (fun h => g6 (by simpa using h)), (fun h => g7 (by simpa using h)), (fun _ => rfl), (fun h => g9 (by simpa using h)), (fun h => g10 (by simpa using h)), (fun h => g11 (by simpa using h)), (fun h => g12 (by simpa using h)), (fun h => w1 (by simpa using h)), (fun h h2 => w2 (by simpa using h) (by simpa using h2)), (fun _ => rfl), (fun h => g15 (by simpa using h)), (fun h => g16 (by simpa using h)), (fun h => (by have := (c13 (by simpa using h)); simpa using this)), (fun h => (by have := (c4 (by simpa using h)); simpa using this)), (fun _ => ⟨by simp [d4], by simp [d8], by simp [d13]⟩), (fun h => ⟨by have := (c15 (by simpa using h)).1; simpa using this, by simp⟩), (fun h => (by have := (c16 (by simpa using h)); simpa using this))⟩
    · have ho : _ = o := Option.some.inj ho
      subst ho
      have d0 : G 0 = true := hd ⟨0, .data⟩ (by simp) rfl
      have d14 : G 14 = true := hd ⟨14, .data⟩ (by simp) rfl
      obtain rfl := g0 d0
      obtain ⟨e4, e8, e13⟩ := c14 d14
      obtain ⟨ho13, hb13⟩ := w2 e13 hG
      obtain ⟨a2, n2, c2, fn, tmps, assign, body, rfl, hy, hR⟩ := Y2.out _ _ ho13 hb13
      obtain rfl := g14 d14
      have h16 : G 16 = false := by cases h : G 16 with | false => rfl | true => rw [c16 h] at hG; cases hG
      have HH := hid (show _ ∧ _ ∧ _ ∧ _ ∧ _ ∧ _ ∧ _ ∧ _ ∧ _ ∧ _ ∧ _ ∧ _ ∧ _ ∧ _ ∧ _ ∧ _ ∧ _ ∧ _ ∧ _ ∧ _ ∧ _ ∧ _ ∧ _ from ⟨g0, g1, g2, g3, g4, g5, g6, g7, g8, g9, g10, g11, g12, w1, w2, g14, g15, g16, c13, c4, c14, c15, c16⟩)
      clear g0 g1 g2 g3 g4 g5 g6 g7 g8 g9 g10 g11 g12 w1 w2 g14 g15 g16 c13 c4 c14 c15 c16 hbw hd
      refine wpOpIn_of rfl rfl ?_
      gi_wp2
      refine hR.out.mono ?_
      rintro e w4 ⟨b, rfl, hRb⟩
      have hRb := hid hRb
      gi_wp2
      obtain ⟨g0, g1, g2, g3, g4, g5, g6, g7, g8, g9, g10, g11, g12, w1, w2, g14, g15, g16, c13, c4, c14, c15, c16⟩ := HH.out
      exact ⟨_, _, _, _, _, _, _, _, _, _, _, _, _, _, _, _, _, rfl, (fun _ => rfl), (fun h => g1 (by simpa using h)), (fun h => g2 (by simpa using h)), (fun h => g3 (by simpa using h)), (fun h => g4 (by simpa using h)), (fun h => g5 (by simpa using h)), (fun h => g6 (by simpa using h)), (fun h => g7 (by simpa using h)), (fun h => g8 (by simpa using h)), (fun h => g9 (by simpa using h)), (fun h => g10 (by simpa using h)), (fun h => g11 (by simpa using h)), (fun h => g12 (by simpa using h)), (fun h => by simp [e13] at h), (fun _ h => by simp at h), (fun _ => rfl), (fun _ => ⟨b, rfl, hRb.out⟩), (fun h => by simp [h16] at h), (fun h => (by have := (c13 (by simpa using h)); simpa using this)), (fun h => (by have := (c4 (by simpa using h)); simpa using this)), (fun h => ⟨by have := (c14 (by simpa using h)).1; simpa using this, by have := (c14 (by simpa using h)).2.1; simpa using this, by have := (c14 (by simpa using h)).2.2; simpa using this⟩), (fun _ => ⟨by simp [d0], by simp [d14]⟩), (fun h => (by simp))⟩
    · have ho : _ = o := Option.some.inj ho
      subst ho
      have d15 : G 15 = true := hd ⟨15, .data⟩ (by simp) rfl
      obtain ⟨b, rfl, hb⟩ := g15 d15
      have HH := hid (show _ ∧ _ ∧ _ ∧ _ ∧ _ ∧ _ ∧ _ ∧ _ ∧ _ ∧ _ ∧ _ ∧ _ ∧ _ ∧ _ ∧ _ ∧ _ ∧ _ ∧ _ ∧ _ ∧ _ ∧ _ ∧ _ ∧ _ from ⟨g0, g1, g2, g3, g4, g5, g6, g7, g8, g9, g10, g11, g12, w1, w2, g14, g15, g16, c13, c4, c14, c15, c16⟩)
      clear g0 g1 g2 g3 g4 g5 g6 g7 g8 g9 g10 g11 g12 w1 w2 g14 g15 g16 c13 c4 c14 c15 c16 hbw hd
      refine wpOpIn_of rfl rfl ?_
      gi_wp2
      obtain ⟨g0, g1, g2, g3, g4, g5, g6, g7, g8, g9, g10, g11, g12, w1, w2, g14, g15, g16, c13, c4, c14, c15, c16⟩ := HH.out
      exact ⟨_, _, _, _, _, _, _, _, _, _, _, _, _, _, _, _, _, rfl, (fun h => g0 (by simpa using h)), (fun h => g1 (by simpa using h)), (fun h => g2 (by simpa using h)), (fun h => g3 (by simpa using h)), (fun h => g4 (by simpa using h)), (fun h => g5 (by simpa using h)), (fun h => g6 (by simpa using h)), (fun h => g7 (by simpa using h)), (fun h => g8 (by simpa using h)), (fun h => g9 (by simpa using h)), (fun h => g10 (by simpa using h)), (fun h => g11 (by simpa using h)), (fun h => g12 (by simpa using h)), (fun h => w1 (by simpa using h)), (fun h h2 => w2 (by simpa using h) (by simpa using h2)), (fun h => g14 (by simpa using h)), (fun h => g15 (by simpa using h)), (fun _ => rfl), (fun h => (by have := (c13 (by simpa using h)); simpa using this)), (fun h => (by have := (c4 (by simpa using h)); simpa using this)), (fun h => ⟨by have := (c14 (by simpa using h)).1; simpa using this, by have := (c14 (by simpa using h)).2.1; simpa using this, by have := (c14 (by simpa using h)).2.2; simpa using this⟩), (fun h => ⟨by have := (c15 (by simpa using h)).1; simpa using this, by have := (c15 (by simpa using h)).2; simpa using this⟩), (fun _ => (by simp [d15]))⟩

end Go.Proofs.YtafickhhdemjnaaGreatDoor

namespace Go.Proofs.YtafickhhdemjnaaGreatDoor
open Go.RowKit Go.Shelf Go.Sort
set_option linter.unusedVariables false

set_option maxHeartbeats 4000000 in
theorem see41_not {W : World} {T Ba By k lv a : Nat} {N : Nodes} (hV : View W T 0 lv N) (hBa : W.cell? ⟨Ba, 0, none⟩ = some (.int .i64 (a : Int))) (hk : k < 128) (h : k < lv ∨ (N k).1 ≤ a) :
    Calls Tryz.prog 112 #[.int .i64 (k : Int), .pointer (some ⟨T, 0, none⟩), .pointer (some ⟨Ba, 0, none⟩), .pointer (some ⟨By, 0, none⟩)] W fun e W' => e = .returned (.bool true) ∧ ∃ q, W' = W.drewN q := by
  obtain ⟨p, n1, n2, n3, n4⟩ := hV.node k hk
  have ND := hid (node_any hk n1)
  have hL := hV.leaves
  have LF := hid (fun m => callsIn_wide (n := 2).2 ((isLeaf_any (k := k) (w := W.drewN m) hL).mono (fun e w' h => (⟨h.1, m, h.2⟩ : _ ∧ ∃ m', w' = W.drewN m'))))
  by_cases hc : lv ≤ k
  · have ha : (N k).1 ≤ a := by omega
    have d0 : decide (lv ≤ k) = true := by simpa using hc
    rw [d0] at LF
    have d3 : decide ((N k).1 ≤ a) = true := by simpa using ha
    generalize (N k).1 = x at *
    generalize k % 8 * 2 = r at *
    clear hV n1 n3 n4 hk h ha hc d0
    refine (callsIn_wide (n := 3)).1 (callsIn_of_wp Tryz.func112 rfl trivial ?_ rfl)
    simp only [Tryz.ntmps112, List.size_toArray, List.length_cons, List.length_nil, Nat.reduceAdd, Nat.reduceSub, Array.replicate_succ, Array.replicate_zero, List.push_toArray, List.append_toArray, List.nil_append, List.cons_append]
    gi_wp2
    refine ⟨trivial, (callsIn_wide.2 ND.out).mono ?_⟩
    rintro e w' ⟨rfl, hw'⟩
    subst hw'
    have wfa : ∀ f, Fence.wide.fn f = True := fun _ => rfl
    gi_wp2
    refine wpIn_region_quiet_lit rfl (by kernel_rfl) (by kernel_rfl) ?_
    repeat (quiet_step_in (first | with_reducible exact LF.out _ ))
    refine wpQuietIn_nil ?_
    rintro w2 ⟨nq, rfl⟩
    clear wfa LF ND n2 hL hBa
    gi_wp2
    refine bodyPost_ret (results_tmp rfl _ _ _) rfl ?_
    exact ⟨rfl, _, rfl⟩
  · have d0 : decide (lv ≤ k) = false := by simpa using hc
    rw [d0] at LF
    generalize k % 8 * 2 = r at *
    clear hV n1 n3 n4 hk h hc d0
    refine (callsIn_wide (n := 3)).1 (callsIn_of_wp Tryz.func112 rfl trivial ?_ rfl)
    simp only [Tryz.ntmps112, List.size_toArray, List.length_cons, List.length_nil, Nat.reduceAdd, Nat.reduceSub, Array.replicate_succ, Array.replicate_zero, List.push_toArray, List.append_toArray, List.nil_append, List.cons_append]
    gi_wp2
    refine ⟨trivial, (callsIn_wide.2 ND.out).mono ?_⟩
    rintro e w' ⟨rfl, hw'⟩
    subst hw'
    have wfa : ∀ f, Fence.wide.fn f = True := fun _ => rfl
    gi_wp2
    refine wpIn_region_quiet_lit rfl (by kernel_rfl) (by kernel_rfl) ?_
    repeat (quiet_step_in (first | with_reducible exact LF.out _ ))
    refine wpQuietIn_nil ?_
    rintro w2 ⟨nq, rfl⟩
    clear wfa LF ND n2 hL hBa
    gi_wp2
    refine bodyPost_ret (results_tmp rfl _ _ _) rfl ?_
    exact ⟨rfl, _, rfl⟩

end Go.Proofs.YtafickhhdemjnaaGreatDoor
