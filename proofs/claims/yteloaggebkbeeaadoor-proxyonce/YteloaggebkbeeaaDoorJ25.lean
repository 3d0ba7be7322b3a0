import Derived.Test.YteloaggebkbeeaaDoorJ22
import Derived.Test.YteloaggebkbeeaaDoorJ24
namespace Go.Proofs.YteloaggebkbeeaaDoor
open Go.RowKit
set_option linter.unusedVariables false

/-- What holds of a client that a script of i steps was played to. -/
structure On (x : Px) (N i : Nat) (asked least b m n1 n2 : Int) : Prop where
  n : x.n = (N : Int)
  N7 : N = 3 ∨ N = 5 ∨ N = 7
  id : x.id = 0
  r0 : 0 ≤ x.rq.num
  r1 : x.rq.num ≤ (i : Int)
  rw : x.rq.wts = true → 1 ≤ x.rq.num
  q0 : 0 ≤ x.qu.num
  q1 : x.qu.num ≤ (i : Int)
  qw : x.qu.wts = true → 1 ≤ x.qu.num
  ask : asked = x.qu.num
  lst : x.qu.wts = true → x.least = least
  rl : x.rq.okL
  ql : x.qu.okL
  v : 0 ≤ x.view
  w0 : 0 ≤ x.who
  w7 : x.who ≤ 7
  a0 : 0 ≤ x.again
  a1 : x.again ≤ (i : Int)
  bm : 1 ≤ b ∧ b ≤ m ∧ m ≤ 1024
  b1 : 1 ≤ n1 ∧ n1 ≤ m
  b2 : 1 ≤ n2 ∧ n2 ≤ m
/-- What was told of it, and what is. -/
def Px.rqO (x : Px) : Int := if x.rq.wts then x.rq.num else 0
def Px.quO (x : Px) : Int := if x.qu.wts then x.qu.num else 0
structure Tl (x x' : Px) (is ak : Bool) (nb nm asked least : Int) : Prop where
  t1 : is = true → ak = false → x.rqO ≠ 0 ∧ nb = x.rqO ∧ x'.rqO = 0 ∧ nm ≤ x'.seen
  t2 : is = true → ak = true → x.quO ≠ 0 ∧ nb = x.quO ∧ nb = asked ∧ least ≤ nm ∧ x'.quO = 0 ∧ nm ≤ x'.seen
  t3 : is = false → (0 < x.rqO → x'.rqO = x.rqO) ∧ (0 < x.quO → x'.quO = x.quO)
  t4 : x.seen ≤ x'.seen ∧ x.view ≤ x'.view ∧ x.rq.num ≤ x'.rq.num
theorem Tl.same {x : Px} {ak : Bool} {nb nm asked least : Int} : Tl x x false ak nb nm asked least := ⟨fun h => by simp at h, fun h => by simp at h, fun _ => ⟨fun _ => rfl, fun _ => rfl⟩, Int.le_refl _, Int.le_refl _, Int.le_refl _⟩
theorem On.up {x : Px} {N i : Nat} {asked least b m n1 n2 : Int} (h : On x N i asked least b m n1 n2) : On x N (i + 1) asked least b m n1 n2 :=
  { h with r1 := by have := h.r1; omega, q1 := by have := h.q1; omega, a1 := by have := h.a1; omega }
theorem On.rqO0 {x : Px} {N i : Nat} {asked least b m n1 n2 : Int} (h : On x N i asked least b m n1 n2) : (x.rq.wts = true → x.rqO = x.rq.num ∧ x.rqO ≠ 0) ∧ (x.rq.wts = false → x.rqO = 0) := by
  refine ⟨fun hw => ?_, fun hw => by simp [Px.rqO, hw]⟩
  have := h.rw hw
  have e : x.rqO = x.rq.num := by simp [Px.rqO, hw]
  exact ⟨e, by rw [e]; omega⟩
theorem On.sub {x : Px} {N i : Nat} {asked least b m n1 n2 : Int} (h : On x N i asked least b m n1 n2) (hw : x.rq.wts = false) (k : Int) (nm tx : ByteArray) (a d : Int) : On (x.sub k nm tx a d n1) N (i + 1) asked least b m (min (2 * n1) m) n2 ∧ ∀ ak nb nm', Tl x (x.sub k nm tx a d n1) false ak nb nm' asked least := by
  have r0 := h.r0
  have r1 := h.r1
  have b1 := h.b1
  have bm := h.bm
  refine ⟨{ h.up with r0 := ?_, r1 := ?_, rw := fun _ => ?_, rl := fun _ => ?_, b1 := ?_ }, fun ak nb nm' => ⟨fun e => by simp at e, fun e => by simp at e, fun _ => ⟨fun e => ?_, fun _ => rfl⟩, Int.le_refl _, Int.le_refl _, ?_⟩⟩
  · show 0 ≤ x.rq.num + 1; omega
  · show x.rq.num + 1 ≤ ((i + 1 : Nat) : Int); omega
  · show 1 ≤ x.rq.num + 1; omega
  · show 1 ≤ n1 ∧ n1 ≤ 1024; omega
  · omega
  · rw [h.rqO0.2 hw] at e; omega
  · show x.rq.num ≤ x.rq.num + 1; omega
theorem On.asks {x : Px} {N i : Nat} {asked least b m n1 n2 : Int} (h : On x N i asked least b m n1 n2) (hw : x.qu.wts = false) (k : Int) (nm tx : ByteArray) (a d who : Int) (h0 : 0 ≤ who) (h1 : who < (N : Int)) : On (x.asked k nm tx a d n2 who) N (i + 1) (asked + 1) x.seen b m n1 (min (2 * n2) m) ∧ ∀ ak nb nm' l', Tl x (x.asked k nm tx a d n2 who) false ak nb nm' (asked + 1) l' := by
  have q0 := h.q0
  have q1 := h.q1
  have b2 := h.b2
  have bm := h.bm
  have N7 := h.N7
  have ak := h.ask
  refine ⟨{ h.up with q0 := ?_, q1 := ?_, qw := fun _ => ?_, ask := ?_, lst := fun _ => rfl, ql := fun _ => ?_, w0 := h0, w7 := ?_, b2 := ?_ }, fun ak nb nm' l' => ⟨fun e => by simp at e, fun e => by simp at e, fun _ => ⟨fun _ => rfl, fun e => ?_⟩, Int.le_refl _, Int.le_refl _, Int.le_refl _⟩⟩
  · show 0 ≤ x.qu.num + 1; omega
  · show x.qu.num + 1 ≤ ((i + 1 : Nat) : Int); omega
  · show 1 ≤ x.qu.num + 1; omega
  · show asked + 1 = x.qu.num + 1; omega
  · show 1 ≤ n2 ∧ n2 ≤ 1024; omega
  · show who ≤ 7; omega
  · omega
  · have : x.quO = 0 := by simp [Px.quO, hw]
    omega
theorem okL_tick {t : Wt} {n : Int} (h : t.okL) (hn : 1 ≤ n ∧ n ≤ 1024) : (t.tick n).okL := by
  intro hw
  unfold Wt.tick at hw ⊢
  split
  · rename_i h1
    have := h h1
    split
    · exact hn
    · show 1 ≤ t.left - 1 ∧ t.left - 1 ≤ 1024
      omega
  · rename_i h1
    rw [if_neg h1] at hw
    exact absurd hw h1
theorem tick_num (t : Wt) (n : Int) : (t.tick n).num = t.num ∧ (t.tick n).wts = t.wts := by
  unfold Wt.tick
  split
  · split <;> exact ⟨rfl, rfl⟩
  · exact ⟨rfl, rfl⟩
theorem On.ticks {x : Px} {N i : Nat} {asked least b m n1 n2 : Int} (h : On x N i asked least b m n1 n2) : On (x.tick n1 n2) N (i + 1) asked least b m (x.rq.now n1 m) (x.qu.now n2 m) ∧ ∀ ak nb nm', Tl x (x.tick n1 n2) false ak nb nm' asked least := by
  have b1 := h.b1
  have b2 := h.b2
  have bm := h.bm
  have u := h.up
  have a0 := h.a0
  have a1 := h.a1
  obtain ⟨e1, e2⟩ := tick_num x.rq n1
  obtain ⟨e3, e4⟩ := tick_num x.qu n2
  have o1 : (x.tick n1 n2).rqO = x.rqO := by show (if (x.rq.tick n1).wts then (x.rq.tick n1).num else 0) = _; rw [e1, e2]; rfl
  have o2 : (x.tick n1 n2).quO = x.quO := by show (if (x.qu.tick n2).wts then (x.qu.tick n2).num else 0) = _; rw [e3, e4]; rfl
  refine ⟨⟨h.n, h.N7, h.id, ?_, ?_, ?_, ?_, ?_, ?_, ?_, ?_, okL_tick h.rl (by omega), okL_tick h.ql (by omega), h.v, h.w0, h.w7, ?_, ?_, bm, Wt.now_in b1, Wt.now_in b2⟩, fun ak nb nm' => ⟨fun e => by simp at e, fun e => by simp at e, fun _ => ⟨fun _ => o1, fun _ => o2⟩, Int.le_refl _, Int.le_refl _, ?_⟩⟩
  · show 0 ≤ (x.rq.tick n1).num; rw [e1]; exact u.r0
  · show (x.rq.tick n1).num ≤ _; rw [e1]; exact u.r1
  · show (x.rq.tick n1).wts = true → 1 ≤ (x.rq.tick n1).num; rw [e1, e2]; exact u.rw
  · show 0 ≤ (x.qu.tick n2).num; rw [e3]; exact u.q0
  · show (x.qu.tick n2).num ≤ _; rw [e3]; exact u.q1
  · show (x.qu.tick n2).wts = true → 1 ≤ (x.qu.tick n2).num; rw [e3, e4]; exact u.qw
  · show asked = (x.qu.tick n2).num; rw [e3]; exact u.ask
  · show (x.qu.tick n2).wts = true → x.least = least; rw [e4]; exact u.lst
  · show 0 ≤ (if x.qu.due then x.again + 1 else x.again); split <;> omega
  · show (if x.qu.due then x.again + 1 else x.again) ≤ ((i + 1 : Nat) : Int); split <;> omega
  · show x.rq.num ≤ (x.rq.tick n1).num; rw [e1]; exact Int.le_refl _
/-- The head of an answer. -/
structure AcH (AC : List Value) (ak : Bool) (nb nm wh : Int) (c4 c5 c6 : Value) : Prop where
  e : AC = [.bool ak, .int .i64 nb, .int .i64 nm, .int .i64 wh, c4, c5, c6]
theorem On.step {x x' : Px} {N i : Nat} {asked least b m n1 n2 n1' n2' : Int} {AC : List Value} {is : Bool} (h : On x N i asked least b m n1 n2) (s : SR x b n1 n2 AC is x' n1' n2') : On x' N (i + 1) asked least b m n1' n2' ∧ ∃ ak nb nm wh c4 c5 c6, AcH AC ak nb nm wh c4 c5 c6 ∧ Tl x x' is ak nb nm asked least ∧ AC.toArray.all (·.oneCell') = true := by
  have u := h.up
  rcases s with ⟨rfl, rfl, rfl, rfl, v, hv, rfl⟩ | ⟨rfl, mm, a1, k1, p1, rfl, hw, hq, rfl, rfl, rfl⟩ | ⟨rfl, mm, a1, k1, p1, rfl, hw, hq, hl, rfl, rfl, rfl⟩
  · refine ⟨{ u with v := ?_ }, false, 0, 0, 0, .int .i64 0, .int .i64 0, .slice none 0 0, ⟨rfl⟩, ⟨fun e => by simp at e, fun e => by simp at e, fun _ => ⟨fun _ => rfl, fun _ => rfl⟩, Int.le_refl _, hv, Int.le_refl _⟩, by simp [zA, Value.oneCell']⟩
    have := h.v
    show 0 ≤ v
    omega
  · refine ⟨{ u with rw := fun e => ?_, rl := fun e => ?_, v := ?_, b1 := ⟨h.bm.1, h.bm.2.1⟩ }, false, mm.q, mm.n, 0, .int .i64 mm.rc, .int .i64 mm.rn, .slice a1 k1 p1, ⟨rfl⟩, ⟨fun _ _ => ⟨(h.rqO0.1 hw).2, ?_, rfl, Int.le_max_right _ _⟩, fun _ e => by simp at e, fun e => by simp at e, Int.le_max_left _ _, Int.le_max_left _ _, Int.le_refl _⟩, by simp [ansA, Value.oneCell']⟩
    · exact absurd e (by simp [Px.reply, Wt.ended])
    · exact absurd e (by simp [Px.reply, Wt.ended])
    · have := h.v
      show 0 ≤ max x.view mm.v
      omega
    · rw [(h.rqO0.1 hw).1, hq]
  · have eq : x.quO = x.qu.num := by simp [Px.quO, hw]
    have q1 := h.qw hw
    refine ⟨⟨h.n, h.N7, h.id, u.r0, u.r1, u.rw, u.q0, u.q1, fun e => ?_, u.ask, fun e => ?_, u.rl, fun e => ?_, u.v, Int.le_refl _, (by show (0 : Int) ≤ 7; decide), Int.le_refl _, ?_, h.bm, u.b1, h.bm.1, h.bm.2.1⟩, true, mm.q, mm.n, mm.f, .int .i64 mm.rc, .int .i64 mm.rn, .slice a1 k1 p1, ⟨rfl⟩, ⟨fun _ e => by simp at e, fun _ _ => ⟨by omega, by rw [eq, hq], by rw [h.ask, hq], by rw [← h.lst hw]; exact hl, rfl, Int.le_max_right _ _⟩, fun e => by simp at e, Int.le_max_left _ _, Int.le_refl _, Int.le_refl _⟩, by simp [ansT, Value.oneCell']⟩
    · exact absurd e (by simp [Px.told, Px.endq, Wt.ended])
    · exact absurd e (by simp [Px.told, Px.endq, Wt.ended])
    · exact absurd e (by simp [Px.told, Px.endq, Wt.ended])
    · show (0 : Int) ≤ ((i + 1 : Nat) : Int)
      omega
theorem AcH.len {AC : List Value} {ak : Bool} {nb nm wh : Int} {c4 c5 c6 : Value} (h : AcH AC ak nb nm wh c4 c5 c6) : AC.length = 7 := by rw [h.e]; rfl
theorem ab_set {P AB : Nat} {x : Px} {b m n1 n2 : Int} {cs : List Comp} {w : World} {vs : List Value} (h : All (pxL P x b m n1 n2 ++ (blkC AB vs 48 :: cs)) w) (vs' : List Value) : All (pxL P x b m n1 n2 ++ (blkC AB vs' 48 :: cs)) (w.setRow AB vs'.toArray) := ((h.perm List.perm_middle).setRow (vs' := vs')).perm List.perm_middle.symm
end Go.Proofs.YteloaggebkbeeaaDoor

namespace Go.Proofs.YteloaggebkbeeaaDoor
open Go.RowKit
set_option linter.unusedVariables false

/-- Ask of anything, to a replica that there is. -/
theorem ask_any {P : Nat} {x : Px} {N i : Nat} {asked least b m n1 n2 : Int} {cs : List Comp} {w w0 : World} (h : All (pxL P x b m n1 n2 ++ cs) w) (hT : Tab w0) (hin : inC w0 ∈ cs) (hO : On x N i asked least b m n1 n2) (hi : (i : Int) ≤ 400000000000) (k : Int) (nm tx : ByteArray) (a d who : Int) (hw0 : 0 ≤ who) (hw1 : who < (N : Int)) :
    Calls Tryd.prog 12 #[.pointer (some ⟨P, 0, none⟩), .int .i64 who, opV k nm tx a d] w fun e w' => ∃ v f x' n2', e = .returned (.tuple #[v, .int .i64 f]) ∧ All (pxL P x' b m n1 n2' ++ cs) w' ∧ ((f ≠ 0 ∧ x' = x ∧ n2' = n2) ∨ (f = 0 ∧ On x' N (i + 1) (asked + 1) x.seen b m n1 n2' ∧ ∀ ak nb nm l', Tl x x' false ak nb nm (asked + 1) l')) := by
  by_cases hc : chkA k nm.size tx.size a d = 0
  · by_cases hk : 6 ≤ k ∧ k ≤ 8
    · by_cases hw : x.qu.wts = true
      · exact (ask_no h hT hin k nm tx a d who hc hk hw0 (by rw [hO.n]; exact hw1) (E := 141) (by decide) (fun W cs' hW => begQ_busy hW hw _ ⟨_, _, _, _, _, rfl⟩)).mono fun e w' ⟨he, hA⟩ => ⟨_, _, _, _, he, hA, Or.inl ⟨by decide, rfl, rfl⟩⟩
      · have hw' : x.qu.wts = false := by simpa using hw
        have q1 := hO.q1
        refine (ask_ok h hT hin k nm tx a d hc hk who hw0 (by rw [hO.n]; exact hw1) hw' hO.q0 (by omega) hO.b2.1 hO.b2.2 hO.bm.2.2).mono fun e w' ⟨G, he, hA⟩ => ?_
        obtain ⟨o1, o2⟩ := hO.asks hw' k nm tx a d who hw0 hw1
        exact ⟨_, _, _, _, he, hA.tail, Or.inr ⟨rfl, o1, o2⟩⟩
    · exact (ask_noq h hT hin k nm tx a d who hc hk).mono fun e w' ⟨he, hA⟩ => ⟨_, _, _, _, he, hA, Or.inl ⟨by decide, rfl, rfl⟩⟩
  · exact (ask_bad h hT hin k nm tx a d who hc).mono fun e w' ⟨he, hA⟩ => ⟨_, _, _, _, he, hA, Or.inl ⟨hc, rfl, rfl⟩⟩
end Go.Proofs.YteloaggebkbeeaaDoor

namespace Go.Proofs.YteloaggebkbeeaaDoor
open Go.RowKit
set_option linter.unusedVariables false

/-- The reply that a step makes, taken. -/
theorem reply_step {P : Nat} {x : Px} {N i : Nat} {asked least b m n1 n2 : Int} {cs : List Comp} {w w0 : World} (h : All (pxL P x b m n1 n2 ++ cs) w) (hin : inC w0 ∈ cs) (hT : Tab w0) (hF : Fld w0)
    (hO : On x N i asked least b m n1 n2) {f v u : Int} (hf : 0 ≤ f ∧ f < (N : Int)) (hv : 0 ≤ v ∧ v < 1099511627776) (hu : 0 ≤ u ∧ u < 1099511627776) (hq : x.rqO ≤ 1099511627776) :
    Calls Tryd.prog 15 #[.pointer (some ⟨P, 0, none⟩), .agg (rpR f v u x.rqO).cells.toArray] w fun e w' => ∃ (AC : List Value) (is : Bool) (x' : Px) (n1' n2' : Int) (ak : Bool) (nb nm wh : Int) (c4 c5 c6 : Value), e = .returned (.tuple #[.agg AC.toArray, .bool is]) ∧ On x' N (i + 1) asked least b m n1' n2' ∧ AcH AC ak nb nm wh c4 c5 c6 ∧ Tl x x' is ak nb nm asked least ∧ AC.toArray.all (·.oneCell') = true ∧ (0 < x.rqO → is = true ∧ ak = false ∧ nm = u) ∧ All (pxL P x' b m n1' n2' ++ cs) w' := by
  have hN : x.n = 3 ∨ x.n = 5 ∨ x.n = 7 := by have := hO.n; have := hO.N7; omega
  have hC := check_of x.n hN (rpR f v u x.rqO) hT hF (rpR_ml f v u x.rqO w0)
  cases hw : x.rq.wts with
  | true =>
    have e := hO.rqO0.1 hw
    have q1 := hO.rw hw
    rw [rpR_E hN (by rw [hO.n]; exact hf) hv hu hq, if_pos (by omega)] at hC
    refine (step_replyA h hin _ (rpR_cop f v u x.rqO w0) hC (by rw [hO.id]; rfl) rfl hw (by rw [← e.1]; rfl)).mono ?_
    rintro ex w' ⟨a1, k1, p1, he, hA⟩
    have s : SR x b n1 n2 (ansA (rpR f v u x.rqO) (.slice a1 k1 p1)) true (x.reply (rpR f v u x.rqO)) b n2 := Or.inr (Or.inl ⟨rfl, _, a1, k1, p1, rfl, hw, by rw [← e.1]; rfl, rfl, rfl, rfl⟩)
    obtain ⟨hO', ak, nb, nm, wh, c4, c5, c6, hac, htl, hone⟩ := hO.step s
    refine ⟨_, _, _, _, _, ak, nb, nm, wh, c4, c5, c6, he, hO', hac, htl, hone, fun _ => ⟨rfl, ?_⟩, hA⟩
    have := hac.e
    simp only [ansA, List.cons.injEq, Value.bool.injEq, Value.int.injEq, true_and] at this
    exact ⟨this.1.symm, this.2.2.1.symm⟩
  | false =>
    have e := hO.rqO0.2 hw
    refine (step_any h hin _ _ (rpR_cop f v u x.rqO w0) hC).mono ?_
    rintro ex w' ⟨AC, is, x', n1', n2', he, s, hA⟩
    obtain ⟨hO', ak, nb, nm, wh, c4, c5, c6, hac, htl, hone⟩ := hO.step s
    exact ⟨_, _, _, _, _, ak, nb, nm, wh, c4, c5, c6, he, hO', hac, htl, hone, fun h => by omega, hA⟩
end Go.Proofs.YteloaggebkbeeaaDoor

namespace Go.Proofs.YteloaggebkbeeaaDoor
open Go.RowKit

set_option maxRecDepth 100000 in
theorem built41 {a : Act} {F V U Q : Int} {RC : List Value} (hRC : RC = (rpR F V U Q).cells) (h1 : a.eval (.tmp 147) = .int .i64 F) (h3 : a.eval (.tmp 150) = .int .i64 V) (h8 : a.eval (.tmp 152) = .int .i64 Q) (h4 : a.eval (.tmp 155) = .int .i64 U) :
    Tryd.prog.built 41 ((#[(0, .const (.int .i64 2)), (1, .tmp 147), (2, .const (.int .i64 0)), (3, .tmp 150), (8, .tmp 152), (4, .tmp 155)] : Array (Nat × Operand)).map fun (i, x) => (i, a.eval x)).toList = some RC.toArray := by
  rw [hRC]
  simp only [List.map_toArray, List.map_cons, List.map_nil, h1, h3, h8, h4]
  kernel_rfl
end Go.Proofs.YteloaggebkbeeaaDoor
