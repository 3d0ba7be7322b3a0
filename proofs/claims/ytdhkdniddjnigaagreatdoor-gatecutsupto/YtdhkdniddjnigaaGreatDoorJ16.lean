import Derived.Test.YtdhkdniddjnigaaGreatDoorGs
import Derived.Test.YtdhkdniddjnigaaGreatDoorJ14
import Derived.Shelf.Vars
import Derived.Test.YtdhkdniddjnigaaGreatDoorCards
import Derived.Test.YtdhkdniddjnigaaGreatDoorTie
import Derived.ProofKit
import Derived.OpenShut
import Derived.SizedLaws
import Derived.Deep.DeepHandedRow
import Derived.Deep.Slices
import Derived.Lib.LaidTab
import Derived.Lib.SmallJoins
import Derived.Stop.LaidErr
import Derived.Deep.Strs
namespace Go.Proofs.YtdhkdniddjnigaaGreatDoor
open Go.RowKit
set_option linter.unusedVariables false

theorem ms_rng {W : World} {aa : Option Addr} {ca n : Nat} {l : List Ms} {cs : List Comp} (h : All (msC (.slice aa n ca) l :: cs) W) {k : Nat} {x : Ms} (hx : l[k]? = some x) : ∃ g, aa = some ⟨g, 0, none⟩ ∧ W.rangeAt g (k * 23) x.cells := by
  have ho : W.ownsRow 0 51 23 (.slice aa n ca) l.length (l.flatMap Ms.cells) := h.1.2.1
  have h0 : (l.flatMap Ms.cells)[k * 23 + 0]? = some (.int .i64 x.k) := by rw [flat_at Ms.len hx (by decide)]; rfl
  obtain ⟨g, e, _, _⟩ := row_at ho h0
  refine ⟨g, e, fun j u hu => ?_⟩
  have hj : j < 23 := by have := (List.getElem?_eq_some_iff.1 hu).1; rwa [x.len] at this
  have h1 : (l.flatMap Ms.cells)[k * 23 + j]? = some u := by rw [flat_at Ms.len hx hj]; exact hu
  obtain ⟨g', e', _, hc⟩ := row_at ho h1
  rw [e] at e'
  simp only [Option.some.injEq, Addr.mk.injEq, and_true] at e'
  subst e'
  exact hc
set_option maxHeartbeats 6400000 in
set_option maxRecDepth 1000000 in
/-- Two lists of the same messages. -/
theorem said_any {va vb : Value} {l : List Ms} {cs : List Comp} {w : World} (A : All (msC va l :: msC vb l :: cs) w) (hb : ∀ x ∈ l, x.bare) (hn : l.length ≤ 1000000000) : Calls Tryz.prog 18 #[va, vb] w fun e w' => e = .returned (.bool true) ∧ All (msC va l :: msC vb l :: cs) w' := by
  obtain ⟨aa, ca, rfl⟩ := owns_form A.1.2.1
  obtain ⟨ab, cb, rfl⟩ := owns_form A.tail.1.2.1
  obtain ⟨CS, hCS⟩ : ∃ CS, Hid (CS = msC (.slice aa l.length ca) l :: msC (.slice ab l.length cb) l :: cs) := ⟨_, hid rfl⟩
  rw [← hCS.out] at A ⊢
  have RG : Hid (∀ W, All CS W → ∀ k x, l[k]? = some x → ∃ ga gb, aa = some ⟨ga, 0, none⟩ ∧ ab = some ⟨gb, 0, none⟩ ∧ W.rangeAt ga (k * 23) x.cells ∧ W.rangeAt gb (k * 23) x.cells) := hid (fun W h k x hx => by
    rw [hCS.out] at h
    obtain ⟨ga, e1, r1⟩ := ms_rng h hx
    obtain ⟨gb, e2, r2⟩ := ms_rng h.tail hx
    exact ⟨ga, gb, e1, e2, r1, r2⟩)
  have HB := hid hb
  have I51 : Hid (∀ x : Ms, (Tryz.prog.info? 51).map (·.size) = some x.cells.length) := hid (fun x => show (Tryz.prog.info? 51).map (·.size) = some 23 by kernel_rfl)
  have A0 := hid A
  obtain ⟨n, hnn⟩ : ∃ n, Hid (n = l.length) := ⟨_, hid rfl⟩
  have hn1 : n ≤ 1000000000 := by rw [hnn.out]; exact hn
  rw [← hnn.out]
  clear A hb hn hCS
  go_enter Tryz.func18, Tryz.ntmps18
  go_wp2
  go_loopw [13] (fun iv wr => ∃ k : Nat, iv = .int .i64 (k : Int) ∧ k ≤ n ∧ Hid (All CS wr)) (fun iv _ => n - (intOf iv).toNat)
  case atStart => exact ⟨0, rfl, Nat.zero_le _, A0⟩
  case round =>
    clear A0
    obtain ⟨k, rfl, hk, HA⟩ := hrel
    by_cases hlt : k < n
    · obtain ⟨x, hx⟩ : ∃ x, l[k]? = some x := ⟨_, List.getElem?_eq_getElem (by rw [← hnn.out]; exact hlt)⟩
      obtain ⟨ga, gb, rfl, rfl, _, _⟩ := RG.out wr HA.out k x hx
      have PR : Hid (∀ W, All CS W → (fun W => W.rangeAt ga (k * 23) x.cells ∧ W.rangeAt gb (k * 23) x.cells) W) := hid (fun W h => by
        obtain ⟨ga', gb', e1, e2, r1, r2⟩ := RG.out W h k x hx
        simp only [Option.some.injEq, Addr.mk.injEq, and_true] at e1 e2
        subst e1
        subst e2
        exact ⟨r1, r2⟩)
      have AL : Hid (∀ W : World, Calls Tryz.prog 35 #[.agg x.cells.toArray, .agg x.cells.toArray] W fun e w' => e = .returned (.bool true) ∧ Below W.heap.size W w') := hid (fun W => alike_any (HB.out x (List.mem_of_getElem? hx)))
      have I51 := hid (I51.out x)
      have hk1 : (k : Int) < (n : Int) := by omega
      have wk : IntKind.i64.wrap ((k : Int) + 1) = ((k + 1 : Nat) : Int) := by rw [IntKind.wrap_i64]; omega
      clear RG HB hx
      go_upto_region 6 with fail
      have A3 := hid HA.out.drew
      have p0 := hid (PR.out _ A3.out)
      clear HA
      refine wp_region_held_drew (S := (fun W => W.rangeAt ga (k * 23) x.cells ∧ W.rangeAt gb (k * 23) x.cells)) (by kernel_rfl) p0.out (fun hHeld => ?_)
      refine wpAnyH_take (i := 0) (oi := { dst := Option.some 16, op := Go.Op.move (Go.Operand.tmp 0), type := 59, pos := "law.go:55", after := #[], guard := Option.none }) (v := ?_) rfl (by kernel_rfl) (by kernel_rfl) (by kernel_rfl) (fun _ _ _ h => h) (Or.inl ⟨by rfl, ?_⟩) hHeld ?_
      rotate_left
      · intro W hSw
        (try dsimp only at hSw)
        go_simp
        (try with_reducible rfl)
      (try simp only [Act.put, List.setIfInBounds_toArray, List.set_cons_zero, List.set_cons_succ])
      refine wpAnyH_take (i := 1) (oi := { dst := Option.some 17, op := Go.Op.move (Go.Operand.tmp 5), type := 3, pos := "law.go:55", after := #[], guard := Option.none }) (v := ?_) rfl (by kernel_rfl) (by kernel_rfl) (by kernel_rfl) (fun _ _ _ h => h) (Or.inl ⟨by rfl, ?_⟩) hHeld ?_
      rotate_left
      · intro W hSw
        (try dsimp only at hSw)
        go_simp
        (try with_reducible rfl)
      (try simp only [Act.put, List.setIfInBounds_toArray, List.set_cons_zero, List.set_cons_succ])
      refine wpAnyH_take (i := 2) (oi := { dst := Option.some 18, op := Go.Op.indexAddr 59 (Go.Operand.tmp 16) (Go.Operand.tmp 17), type := 0, pos := "law.go:55", after := #[{ on := 0, ground := Go.Ground.data }, { on := 1, ground := Go.Ground.data }], guard := Option.none }) (v := ?_) rfl (by kernel_rfl) (by kernel_rfl) (by kernel_rfl) (fun _ _ _ h => h) (Or.inl ⟨by rfl, ?_⟩) hHeld ?_
      rotate_left
      · intro W hSw
        (try dsimp only at hSw)
        go_simp
        (try with_reducible rfl)
      (try simp only [Act.put, List.setIfInBounds_toArray, List.set_cons_zero, List.set_cons_succ])
      refine wpAnyH_take (i := 3) (oi := { dst := Option.some 19, op := Go.Op.load 51 (Go.Operand.tmp 18), type := 51, pos := "law.go:55", after := #[{ on := 2, ground := Go.Ground.data }], guard := Option.none }) (v := .agg x.cells.toArray) rfl (by kernel_rfl) (by kernel_rfl) (by kernel_rfl) (fun _ _ _ h => h) (yieldsIf_load_mid (by rfl) 51 (.tmp 18) rfl ga (k * 23) rfl x.cells _ (fun W hW => hW.1) Tryz.underlying51 rfl I51.out) hHeld ?_
      (try simp only [Act.put, List.setIfInBounds_toArray, List.set_cons_zero, List.set_cons_succ])
      refine wpAnyH_take (i := 4) (oi := { dst := Option.some 20, op := Go.Op.move (Go.Operand.tmp 1), type := 59, pos := "law.go:55", after := #[], guard := Option.none }) (v := ?_) rfl (by kernel_rfl) (by kernel_rfl) (by kernel_rfl) (fun _ _ _ h => h) (Or.inl ⟨by rfl, ?_⟩) hHeld ?_
      rotate_left
      · intro W hSw
        (try dsimp only at hSw)
        go_simp
        (try with_reducible rfl)
      (try simp only [Act.put, List.setIfInBounds_toArray, List.set_cons_zero, List.set_cons_succ])
      refine wpAnyH_take (i := 5) (oi := { dst := Option.some 21, op := Go.Op.move (Go.Operand.tmp 5), type := 3, pos := "law.go:55", after := #[], guard := Option.none }) (v := ?_) rfl (by kernel_rfl) (by kernel_rfl) (by kernel_rfl) (fun _ _ _ h => h) (Or.inl ⟨by rfl, ?_⟩) hHeld ?_
      rotate_left
      · intro W hSw
        (try dsimp only at hSw)
        go_simp
        (try with_reducible rfl)
      (try simp only [Act.put, List.setIfInBounds_toArray, List.set_cons_zero, List.set_cons_succ])
      refine wpAnyH_take (i := 6) (oi := { dst := Option.some 22, op := Go.Op.indexAddr 59 (Go.Operand.tmp 20) (Go.Operand.tmp 21), type := 0, pos := "law.go:55", after := #[{ on := 4, ground := Go.Ground.data }, { on := 5, ground := Go.Ground.data }], guard := Option.none }) (v := ?_) rfl (by kernel_rfl) (by kernel_rfl) (by kernel_rfl) (fun _ _ _ h => h) (Or.inl ⟨by rfl, ?_⟩) hHeld ?_
      rotate_left
      · intro W hSw
        (try dsimp only at hSw)
        go_simp
        (try with_reducible rfl)
      (try simp only [Act.put, List.setIfInBounds_toArray, List.set_cons_zero, List.set_cons_succ])
      refine wpAnyH_take (i := 7) (oi := { dst := Option.some 23, op := Go.Op.load 51 (Go.Operand.tmp 22), type := 51, pos := "law.go:55", after := #[{ on := 6, ground := Go.Ground.data }], guard := Option.none }) (v := .agg x.cells.toArray) rfl (by kernel_rfl) (by kernel_rfl) (by kernel_rfl) (fun _ _ _ h => h) (yieldsIf_load_mid (by rfl) 51 (.tmp 22) rfl gb (k * 23) rfl x.cells _ (fun W hW => hW.2) Tryz.underlying51 rfl I51.out) hHeld ?_
      (try simp only [Act.put, List.setIfInBounds_toArray, List.set_cons_zero, List.set_cons_succ])
      refine wpAnyH_ready (rs := [8]) (by kernel_rfl) (by simp) ?_
      refine AllReadyH.cons (o := { dst := Option.some 24, op := Go.Op.call { callee := Go.Callee.value (Go.Operand.func 35), args := #[Go.Operand.tmp 19, Go.Operand.tmp 23], argTypes := #[51, 51] }, type := 4, pos := "law.go:55", after := #[{ on := 3, ground := Go.Ground.data }, { on := 7, ground := Go.Ground.data }], guard := Option.none }) rfl (fun K hK => ?_) AllReadyH.nil
      go_simp
      refine (AL.out _).mono ?_; rintro e w4 ⟨rfl, hb4⟩; have A4 := hid (A3.out.later hb4); have p1 := hid (PR.out _ A4.out); clear hb4
      refine hK.out _ _ p1.out (fun hHeld => ?_)
      clear hK K
      (try simp only [Act.put, List.setIfInBounds_toArray, List.set_cons_zero, List.set_cons_succ])
      refine wpAnyH_take (i := 9) (oi := { dst := Option.some 25, op := Go.Op.unOp Go.UnOp.not 4 (Go.Operand.tmp 24), type := 4, pos := "law.go:55", after := #[{ on := 8, ground := Go.Ground.data }], guard := Option.none }) (v := ?_) rfl (by kernel_rfl) (by kernel_rfl) (by kernel_rfl) (fun _ _ _ h => h) (Or.inl ⟨by rfl, ?_⟩) hHeld ?_
      rotate_left
      · intro W hSw
        (try dsimp only at hSw)
        go_simp
        (try with_reducible rfl)
      (try simp only [Act.put, List.setIfInBounds_toArray, List.set_cons_zero, List.set_cons_succ])
      refine wpAnyH_done (by kernel_rfl) ?_ _
      clear hHeld
      clear p0 p1 A3 PR AL
      go_wp2
      go_roundw
      case rel => exact ⟨k + 1, by rw [show ((k + 1 : Nat) : Int) = (k : Int) + 1 by omega], by omega, A4⟩
      case measure => simp [intOf]; omega
    · have e1 : ¬ ((k : Int) < (n : Int)) := by omega
      clear RG HB
      go_wp2
      go_ret
      exact ⟨rfl, HA.out⟩
end Go.Proofs.YtdhkdniddjnigaaGreatDoor

namespace Go.Proofs.YtdhkdniddjnigaaGreatDoor
open Go.RowKit
set_option linter.unusedVariables false

/-- The same client with its patiences elsewhere. -/
def Px.re (x : Px) (a b : Nat) : Px := { x with rq := { x.rq with pb := a }, qu := { x.qu with pb := b } }
def Gs.re (s : Gs) (a b : Nat) : Gs := { s with x := s.x.re a b }
theorem bgE_re (x : Px) (q : Wi) (a b : Nat) : bgE (x.re a b) q = bgE x q := rfl
theorem bgX_re (x : Px) (q : Wi) (n1 n2 : Int) (a b : Nat) : bgX (x.re a b) q n1 n2 = (bgX x q n1 n2).re a b := by
  unfold bgX; split <;> rfl
theorem bgM_re (x : Px) (q : Wi) (n1 n2 : Int) (a b : Nat) : bgM (x.re a b) q n1 n2 = bgM x q n1 n2 := by
  unfold bgM
  rw [bgX_re]
  split <;> rfl
theorem goL_re (m : Int) (s : Gs) (a b : Nat) : ∀ r : List Wi, goL m (s.re a b) r = ⟨(goL m s r).s.re a b, (goL m s r).ms, (goL m s r).tl⟩
  | [] => rfl
  | q :: r => by
    by_cases he : bgE s.x q = 0
    · have he' : bgE (s.re a b).x q = 0 := he
      rw [goL_yes he, goL_yes he']
      show (⟨bgS m (s.re a b) q r, [bgM (s.x.re a b) q s.n1 s.n2], []⟩ : Go) = ⟨(bgS m s q r).re a b, [bgM s.x q s.n1 s.n2], []⟩
      rw [bgM_re]
      have : bgS m (s.re a b) q r = (bgS m s q r).re a b := by
        show ({ (s.re a b) with uw := q.no, ws := r, x := bgX (s.x.re a b) q s.n1 s.n2, n1 := _, n2 := _ } : Gs) = _
        rw [bgX_re]
        rfl
      rw [this]
    · have he' : bgE (s.re a b).x q ≠ 0 := he
      rw [goL_no he, goL_no he', goL_re m s a b r]
      rfl
theorem goM_re (m : Int) (s : Gs) (a b : Nat) : goM m (s.re a b) = ⟨(goM m s).s.re a b, (goM m s).ms, (goM m s).tl⟩ := by
  unfold goM
  show (if s.uw = 0 then goL m (s.re a b) s.ws else ⟨s.re a b, [], []⟩) = _
  split
  · exact goL_re m s a b s.ws
  · rfl
theorem hearM_re (m : Int) (s : Gs) (a b : Nat) : hearM m (s.re a b) = ⟨(hearM m s).s.re a b, (hearM m s).ms, (hearM m s).tl⟩ := by
  unfold hearM
  show (match readM s.tx s.long with
    | .err e => ⟨s.re a b, [], refL s.no e⟩
    | .none => ⟨s.re a b, [], []⟩
    | .wish c w o => if s.ws.length = 16 then ⟨s.re a b, [], refL s.no 231⟩ else goM m { s.re a b with ws := s.ws ++ [⟨s.no, c, w, o⟩] } : Go) = _
  cases readM s.tx s.long with
  | err e => rfl
  | none => rfl
  | wish c w o =>
    simp only
    split
    · rfl
    · exact goM_re m { s with ws := s.ws ++ [⟨s.no, c, w, o⟩] } a b
theorem addM_re (s : Gs) (p : List UInt8) (a b : Nat) : addM (s.re a b) p = (addM s p).re a b := by
  unfold addM
  show (if s.long = true ∨ 8192 < s.tx.length + p.length then _ else _) = _
  split <;> rfl
theorem feedM_re (m : Int) (a b : Nat) : ∀ (l : List UInt8) (s : Gs), feedM m (s.re a b) l = ⟨(feedM m s l).s.re a b, (feedM m s l).ms, (feedM m s l).tl⟩
  | [], s => rfl
  | c :: r, s => by
    unfold feedM
    split
    · rw [hearM_re]
      have e : nxtM ((hearM m s).s.re a b) = (nxtM (hearM m s).s).re a b := rfl
      simp only [e, feedM_re m a b r]
    · rw [addM_re, feedM_re m a b r]
theorem bgM_bare (x : Px) (q : Wi) (n1 n2 : Int) : (bgM x q n1 n2).bare := by
  unfold bgM; split <;> exact ⟨rfl, rfl, rfl, rfl⟩
theorem goL_bare {m : Int} {s : Gs} : ∀ r : List Wi, ∀ x ∈ (goL m s r).ms, x.bare
  | [] => fun x h => by cases h
  | q :: r => by
    by_cases he : bgE s.x q = 0
    · rw [goL_yes he]
      intro x hx
      simp only [List.mem_cons, List.not_mem_nil, or_false] at hx
      subst hx
      exact bgM_bare _ _ _ _
    · rw [goL_no he]; exact goL_bare r
theorem hearM_bare (m : Int) (s : Gs) : ∀ x ∈ (hearM m s).ms, x.bare := by
  unfold hearM
  split
  · intro x h; cases h
  · intro x h; cases h
  · split
    · intro x h; cases h
    · unfold goM; split
      · exact goL_bare _
      · intro x h; cases h
theorem feedM_bare (m : Int) : ∀ (l : List UInt8) (s : Gs), (∀ x ∈ (feedM m s l).ms, x.bare) ∧ (feedM m s l).ms.length ≤ l.length
  | [], s => ⟨fun x h => (by cases h), Nat.le_refl _⟩
  | c :: r, s => by
    unfold feedM
    split
    · obtain ⟨h1, h2⟩ := feedM_bare m r (nxtM (hearM m s).s)
      have h3 := hearM_ms m s
      refine ⟨fun x h => ?_, ?_⟩
      · rcases List.mem_append.1 h with h | h
        · exact hearM_bare m s x h
        · exact h1 x h
      · simp only [List.length_append, List.length_cons]; omega
    · obtain ⟨h1, h2⟩ := feedM_bare m r (addM s [c])
      exact ⟨h1, Nat.le_trans h2 (Nat.le_succ _)⟩
theorem reads_cut {w : World} {ao : Option Addr} {n c : Nat} {l : List UInt8} (h : Reads w (.slice ao n c) l) {lo hi : Nat} (h1 : lo ≤ hi) (h2 : hi ≤ l.length) : Reads w (sliced ao lo hi c 1) ((l.drop lo).take (hi - lo)) := by
  have h3 := h.from (j := lo) (by omega)
  unfold Lib.fromV at h3
  have h4 := Reads.up (n := n - lo) h3 (i := hi - lo) (by rw [List.length_drop]; omega)
  unfold sliced
  simp only [Nat.mul_one]
  exact h4
theorem Tryz.elem40 (W : World) : (sizeOf (Tryz.prog.elem 40)).run Tryz.prog W = .ok 1 W := by kernel_rfl
set_option maxRecDepth 1000000 in
theorem cutB_l (ao : Option Addr) (n c : Nat) (hc : n ≤ c) {a : Nat} (ha : a ≤ n) : ∃ ao' c', (∀ W, (Instr.slice 40 (.slice ao n c) (some (.int .i64 (a : Int))) none none).run Tryz.prog W = .ok (.slice ao' (n - a) c') W) ∧ ∀ W l, Reads W (.slice ao n c) l → Reads W (.slice ao' (n - a) c') (l.drop a) := by
  refine ⟨if c = a then ao else ao.map (·.add (a * 1)), c - a, fun W => ?_, fun W l h => ?_⟩
  rotate_left
  · have h' := h
    obtain ⟨_, _, e, _, _⟩ := h'
    have hl : n = l.length := by simp only [Value.slice.injEq] at e; exact e.2.1
    have hr := reads_cut h (lo := a) (hi := n) ha (by omega)
    rw [List.take_of_length_le (by simp; omega)] at hr
    exact hr
  · rw [run_slice_l W 40 ao n c Tryz.underlying40 .i64 (a : Int) (by omega) (by omega), Tryz.elem40, Int.toNat_natCast]
    rfl
set_option maxRecDepth 1000000 in
theorem cutB_lh (ao : Option Addr) (n c : Nat) (hc : n ≤ c) {a b : Nat} (hb : a + b ≤ n) {y : Int} (hy : y = (a : Int) + b) : ∃ ao' c', (∀ W, (Instr.slice 40 (.slice ao n c) (some (.int .i64 (a : Int))) (some (.int .i64 y)) none).run Tryz.prog W = .ok (.slice ao' b c') W) ∧ ∀ W l, Reads W (.slice ao n c) l → Reads W (.slice ao' b c') ((l.drop a).take b) := by
  have e0 : sliced ao a (a + b) c 1 = .slice (if c = a then ao else ao.map (·.add (a * 1))) b (c - a) := by unfold sliced; rw [Nat.add_sub_cancel_left]
  refine ⟨if c = a then ao else ao.map (·.add (a * 1)), c - a, fun W => ?_, fun W l h => ?_⟩
  rotate_left
  · have h' := h
    obtain ⟨_, _, e, _, _⟩ := h'
    have hl : n = l.length := by simp only [Value.slice.injEq] at e; exact e.2.1
    have hr := reads_cut h (lo := a) (hi := a + b) (by omega) (by omega)
    rw [Nat.add_sub_cancel_left, e0] at hr
    exact hr
  · have ey : y.toNat = a + b := by omega
    rw [run_slice_lh W 40 ao n c Tryz.underlying40 .i64 .i64 (a : Int) y (by omega) (by omega) (by omega), Tryz.elem40, ey, Int.toNat_natCast]
    show Result.ok (sliced ao a (a + b) c 1) W = _
    rw [e0]
set_option maxRecDepth 1000000 in
theorem among_any {w : World} (c n : Int) (hc : -9223372036854775808 ≤ c ∧ c ≤ 9223372036854775807) (hn : 1 ≤ n) (hn2 : n ≤ 4611686018427387904) : Calls Tryz.prog 15 #[.int .i64 c, .int .i64 n] w fun e w' => ∃ a, 0 ≤ a ∧ a < n ∧ e = .returned (.int .i64 a) ∧ w' = w := by
  have m : -n < c.tmod n ∧ c.tmod n < n := by
    by_cases h : c < 0
    · have h1 := Int.tmod_nonneg n (show 0 ≤ -c by omega)
      have h2 := Int.tmod_lt_of_pos (-c) (show 0 < n by omega)
      rw [Int.neg_tmod] at h1 h2
      omega
    · have h1 := Int.tmod_nonneg n (show 0 ≤ c by omega)
      have h2 := Int.tmod_lt_of_pos c (show 0 < n by omega)
      omega
  have n0 : n ≠ 0 := by omega
  have n1 : n ≠ -1 := by omega
  by_cases h0 : c.tmod n < 0
  · have e0 : decide (c.tmod n < 0) = true := decide_eq_true h0
    have w2 : IntKind.i64.wrap (c.tmod n + n) = c.tmod n + n := by rw [IntKind.wrap_i64]; omega
    have f1 := hid (show 0 ≤ c.tmod n + n by omega)
    have f2 := hid (show c.tmod n + n < n by omega)
    clear m hc h0
    go_enter Tryz.func15, Tryz.ntmps15
    go_wp2
    go_ret
    exact ⟨_, f1.out, f2.out, rfl, rfl⟩
  · have e0 : decide (c.tmod n < 0) = false := decide_eq_false h0
    have f1 := hid (show 0 ≤ c.tmod n by omega)
    have f2 := hid m.2
    clear m hc h0
    go_enter Tryz.func15, Tryz.ntmps15
    go_wp2
    go_ret
    exact ⟨_, f1.out, f2.out, rfl, rfl⟩
end Go.Proofs.YtdhkdniddjnigaaGreatDoor

namespace Go.Proofs.YtdhkdniddjnigaaGreatDoor
open Go.RowKit
set_option linter.unusedVariables false

theorem Gt.swap2 {Ga Pa Gb Pb : Nat} {sa sb : Gs} {ta tb : List UInt8} {b m : Int} {x y z : Value} {cs : List Comp} {w : World} (h : Gt Gb Pb sb tb b m (gtL Ga Pa sa ta b m x y z ++ cs) w) : ∃ x' y' z', Gt Ga Pa sa ta b m (gtL Gb Pb sb tb b m x' y' z' ++ cs) w := by
  obtain ⟨x', y', z', h⟩ := h
  exact ⟨x', y', z', x, y, z, h.perm (List.perm_append_comm_assoc _ _ _)⟩
theorem Gt.swap3 {Ga Pa Gb Pb : Nat} {sa sb : Gs} {ta tb : List UInt8} {b m : Int} {x y z : Value} {X : Comp} {cs : List Comp} {w : World} (h : Gt Gb Pb sb tb b m (X :: (gtL Ga Pa sa ta b m x y z ++ cs)) w) : ∃ x' y' z', Gt Ga Pa sa ta b m (X :: (gtL Gb Pb sb tb b m x' y' z' ++ cs)) w := by
  obtain ⟨x', y', z', h⟩ := h
  refine ⟨x', y', z', x, y, z, ?_⟩
  have h1 := h.perm (List.perm_middle (l₁ := gtL Gb Pb sb tb b m x' y' z'))
  have h2 := h1.perm (List.Perm.cons _ (List.perm_append_comm_assoc (gtL Gb Pb sb tb b m x' y' z') (gtL Ga Pa sa ta b m x y z) cs))
  exact h2.perm (List.perm_middle (l₁ := gtL Ga Pa sa ta b m x y z)).symm
theorem Gt.swapL {Ga Pa Gb Pb : Nat} {sa sb : Gs} {ta tb : List UInt8} {b m : Int} {x y z : Value} {L cs : List Comp} {w : World} (h : Gt Gb Pb sb tb b m (L ++ (gtL Ga Pa sa ta b m x y z ++ cs)) w) : ∃ x' y' z', Gt Ga Pa sa ta b m (L ++ (gtL Gb Pb sb tb b m x' y' z' ++ cs)) w := by
  obtain ⟨x', y', z', h⟩ := h
  refine ⟨x', y', z', x, y, z, ?_⟩
  have h1 := h.perm (List.perm_append_comm_assoc (gtL Gb Pb sb tb b m x' y' z') L _)
  have h2 := h1.perm (List.Perm.append_left L (List.perm_append_comm_assoc (gtL Gb Pb sb tb b m x' y' z') (gtL Ga Pa sa ta b m x y z) cs))
  exact h2.perm (List.perm_append_comm_assoc L (gtL Ga Pa sa ta b m x y z) _)
theorem Gt.noOwn {G P : Nat} {s : Gs} {tl : List UInt8} {b m : Int} {cs : List Comp} {w : World} (h : Gt G P s tl b m cs w) : Gt G P s tl b m (ownC 5 (.slice none 0 0) (cellsB []) :: cs) w := by
  obtain ⟨t, u, v, h⟩ := h
  exact ⟨t, u, v, ((All.addNil (e := 5) h).perm List.perm_middle.symm)⟩
/-- Messages that are said are laid behind those that were. -/
theorem Gt.appMs {G P : Nat} {s : Gs} {tl : List UInt8} {b m : Int} {cs : List Comp} {w : World} {sv v2 : Value} {l1 l2 : List Ms} (h : Gt G P s tl b m (msC v2 l2 :: msC sv l1 :: cs) w) (hb : (l1.length + l2.length) * 264 ≤ 140737488355328) :
    ∃ a2 c2, v2 = .slice a2 l2.length c2 ∧ ∃ ao cap w', (Builtin.append_ #[59, 59] 59 #[sv, .slice a2 l2.length c2]).run Tryz.prog w = .ok (.slice ao (l1 ++ l2).length cap) w' ∧ Gt G P s tl b m (msC (.slice ao (l1 ++ l2).length cap) (l1 ++ l2) :: cs) w' := by
  obtain ⟨x, y, z, A⟩ := h
  have A2 := (A.perm (List.perm_middle (l₁ := gtL G P s tl b m x y z))).perm (List.Perm.cons _ (List.perm_middle (l₁ := gtL G P s tl b m x y z)))
  obtain ⟨a2, c2, rfl⟩ := owns_form A2.1.2.1
  obtain ⟨ao, cap, w', hr, A3⟩ := Go.Proofs.YtdhkdniddjnigaaGreatDoor.appMs A2.swap hb
  refine ⟨a2, c2, rfl, ao, cap, w', ?_, x, y, z, ?_⟩
  · rw [List.length_append]; exact hr
  · rw [List.length_append]
    exact (A3.swap.tail).perm List.perm_middle.symm
/-- Bytes that are told are laid behind those that were. -/
theorem Gt.appOwn {G P : Nat} {s : Gs} {tl : List UInt8} {b m : Int} {X : Comp} {cs : List Comp} {w : World} {v tv : Value} {p told : List UInt8} (h : Gt G P s tl b m (ownC 5 v (cellsB p) :: X :: ownC 5 tv (cellsB told) :: cs) w) (hb : told.length + p.length ≤ 140737488355328) :
    ∃ a2 c2, v = .slice a2 p.length c2 ∧ ∃ ao cap w', (Builtin.append_ #[40, 40] 40 #[tv, .slice a2 p.length c2]).run Tryz.prog w = .ok (.slice ao (told ++ p).length cap) w' ∧ Gt G P s tl b m (X :: ownC 5 (.slice ao (told ++ p).length cap) (cellsB (told ++ p)) :: cs) w' := by
  obtain ⟨x, y, z, A⟩ := h
  have A2 := A.perm (List.perm_middle (l₁ := gtL G P s tl b m x y z))
  -- own p :: (gtL ++ (X :: own told :: cs))
  have A3 := A2.perm (List.Perm.cons _ ((List.perm_middle (l₁ := gtL G P s tl b m x y z)).trans (List.Perm.cons _ (List.perm_middle (l₁ := gtL G P s tl b m x y z)))))
  -- own p :: X :: own told :: (gtL ++ cs)
  obtain ⟨a2, c2, rfl⟩ := owns_form A3.1.2.1
  rw [cellsB_length] at A3
  obtain ⟨ao, cap, w', hr, A4⟩ := appB ((A3.perm (perm3 _ _ _ _).symm).perm (List.Perm.refl _)) (reads_own A3) hb
  refine ⟨a2, c2, by rw [cellsB_length], ao, cap, w', ?_, x, y, z, ?_⟩
  · rw [List.length_append]; exact hr
  · rw [List.length_append]
    -- own told' :: own p :: X :: (gtL ++ cs)
    have A5 := A4.swap.tail.swap
    exact (A5.perm (List.Perm.cons _ (List.perm_middle (l₁ := gtL G P s tl b m x y z)).symm)).perm (List.perm_middle (l₁ := gtL G P s tl b m x y z)).symm
set_option maxRecDepth 1000000 in
theorem Out_at {G P : Nat} {s : Gs} {tl : List UInt8} {b m : Int} {txv wsv tov : Value} {cs : List Comp} {w : World} (A : All (gtL G P s tl b m txv wsv tov ++ cs) w) :
    Calls Tryz.prog 16 #[.pointer (some ⟨G, 0, none⟩)] w fun e w' => e = .returned tov ∧ Gt G P s [] b m (ownC 5 tov (cellsB tl) :: cs) w' := by
  obtain ⟨ao, c, rfl⟩ := owns_form A.tail.tail.1.2.1
  have c6 : w.cell? ⟨G, 6, none⟩ = some (.slice ao (cellsB tl).length c) := Gt.cell A 6
  have f6 := Gt.free A 6
  have A2 := (A.setBlk 6 (.slice none 0 0)).perm (List.perm_middle (l₁ := [_, _]))
  have A3 := (A2.perm (List.Perm.cons _ (List.Perm.swap _ _ _)))
  have N : Hid (Gt G P s [] b m (ownC 5 (.slice ao (cellsB tl).length c) (cellsB tl) :: cs) (w.setCell ⟨G, 6, none⟩ (.slice none 0 0))) := hid (by
    have A4 := ((All.addNil (e := 5) A2).perm (perm4 _ _ _ _ _).symm)
    refine ⟨txv, wsv, .slice none 0 0, ?_⟩
    have A5 : All (ownC 5 (.slice ao (cellsB tl).length c) (cellsB tl) :: (gtL G P s [] b m txv wsv (.slice none 0 0) ++ cs)) (w.setCell ⟨G, 6, none⟩ (.slice none 0 0)) := by
      have B0 := All.addNil (e := 5) A2
      -- nil :: told :: blk :: tx :: ws :: rest
      have B1 := B0.swap
      -- told :: nil :: blk :: tx :: ws :: rest
      exact B1.perm (List.Perm.cons _ (perm3 _ _ _ _))
    exact A5.perm (List.perm_middle (l₁ := gtL G P s [] b m txv wsv (.slice none 0 0))).symm)
  clear A A2 A3
  generalize (cellsB tl).length = n at *
  go_enter Tryz.func16, Tryz.ntmps16
  go_wp2
  go_ret
  exact ⟨rfl, N.out⟩
end Go.Proofs.YtdhkdniddjnigaaGreatDoor

namespace Go.Proofs.YtdhkdniddjnigaaGreatDoor
open Go.RowKit
set_option linter.unusedVariables false

/-- Whole numbers that came in. -/
def CutsAt (w0 : World) (ac : Option Addr) (cuts : List Int) : Prop := ∀ k x, cuts[k]? = some x → (-9223372036854775808 ≤ x ∧ x ≤ 9223372036854775807) ∧ ∃ g o, ac = some ⟨g, o, none⟩ ∧ g < w0.heap.size ∧ w0.cell? ⟨g, o + k, none⟩ = some (.int .i64 x)
set_option maxHeartbeats 12800000 in
set_option maxRecDepth 1000000 in
/-- THE LAW: how a text is cut is not seen. -/
theorem cuts_law {w : World} {at_ : Option Addr} {ct cc : Nat} {text : List UInt8} {ac : Option Addr} {cuts : List Int} (E : Evs [inC w]) (hR : Reads w (.slice at_ text.length ct) text) (hnt : text.length ≤ 10000000) (hC : CutsAt w ac cuts) (hnc : cuts.length ≤ 10000000) :
    Calls Tryz.prog 4 #[.slice at_ text.length ct, .slice ac cuts.length cc] w fun e w' => e = .returned (.bool true) ∧ Below w.heap.size w w' := by
  have A0 := All.came w
  have AW := hid (awake_any A0 E)
  have C7 : Hid (∀ W cs, All cs W → Calls Tryz.prog 7 #[cfgV 3 2 2 3 16 64 4 4 16 4, .int .i64 0] W fun e w' => ∃ G P p1 p2, e = .returned (.tuple #[.pointer (some ⟨G, 0, none⟩), .int .i64 0]) ∧ Gt G P (gs0 (px0 3 0 p1 p2) 4 4) [] 4 64 cs w') := hid (fun W cs hW => New_gt hW 3 2 2 3 16 64 4 4 16 4 0 (by decide +kernel) (by decide) (by decide))
  have C13 : Hid (∀ W : World, Calls Tryz.prog 13 #[] W fun e w' => e = .returned (cfgV 3 2 2 3 16 64 4 4 16 4) ∧ w' = W.alloc (cfgB 3 2 2 3 16 64 4 4 16 4)) := hid (fun W => config_any)
  have hctn : text.length ≤ ct := by obtain ⟨_, _, e, hc, _⟩ := hR; simp only [Value.slice.injEq] at e; obtain ⟨_, _, rfl⟩ := e; exact hc
  have HR : Hid (∀ W, Below w.heap.size w W → Reads W (.slice at_ text.length ct) text) := hid (fun W h => hR.below h)
  have HC : Hid (∀ W, Below w.heap.size w W → ∀ k x, cuts[k]? = some x → (-9223372036854775808 ≤ x ∧ x ≤ 9223372036854775807) ∧ ∃ g o, ac = some ⟨g, o, none⟩ ∧ W.cell? ⟨g, o + k, none⟩ = some (.int .i64 x)) := hid (fun W h k x hx => by
    obtain ⟨h1, g, o, h2, h3, h4⟩ := hC k x hx
    exact ⟨h1, g, o, h2, cell_under h h3 h4⟩)
  have HE := hid E
  have HN := hid hnt
  have HCT := hid hctn
  obtain ⟨nc, hnn⟩ : ∃ n, Hid (n = cuts.length) := ⟨_, hid rfl⟩
  have hncb : nc ≤ 10000000 := by rw [hnn.out]; exact hnc
  rw [← hnn.out]
  clear A0 E hR hC hnt hnc hctn
  obtain ⟨nt, hnt⟩ : ∃ n, Hid (n = text.length) := ⟨_, hid rfl⟩
  have hntb : nt ≤ 10000000 := by rw [hnt.out]; exact HN.out
  have hntc : nt ≤ ct := by rw [hnt.out]; exact HCT.out
  rw [← hnt.out] at HR ⊢
  clear HN HCT
  go_enter Tryz.func4, Tryz.ntmps4
  go_wp2_with fail
  refine AW.out.mono ?_
  rintro e w1 ⟨rfl, hA⟩
  have A1 := hid hA
  clear hA AW
  go_wp2_with fail
  refine (C13.out _).mono ?_
  rintro e w2 ⟨rfl, hw2⟩
  have A2 : Hid (All [inC w] w2) := hid (by rw [hw2]; exact A1.out.alloc _)
  clear hw2 A1
  go_wp2_with fail
  refine (C7.out _ _ A2.out).mono ?_
  rintro e w3 ⟨Ga, Pa, p1, p2, rfl, hG⟩
  have G3 := hid hG
  clear hG A2
  go_wp2_with fail
  refine (C13.out _).mono ?_
  rintro e w4 ⟨rfl, hw4⟩
  have G4 : Hid (Gt Ga Pa (gs0 (px0 3 0 p1 p2) 4 4) [] 4 64 [inC w] w4) := hid (by rw [hw4]; exact G3.out.later (ba _ _))
  clear hw4 G3 C13
  obtain ⟨x1, y1, z1, hA⟩ := G4.out
  have C7b := hid (C7.out _ _ hA)
  clear hA C7 G4
  go_wp2_with fail
  refine C7b.out.mono ?_
  rintro e w5 ⟨Gb, Pb, p3, p4, rfl, hG⟩
  obtain ⟨x2, y2, z2, hG⟩ := hG.swap2
  have EA := HE.out.app (gtL Gb Pb (gs0 (px0 3 0 p3 p4) 4 4) [] 4 64 x2 y2 z2)
  have FA := hid (feed_gt (l := text) hG EA (gs0_I (Or.inl rfl) (by decide) (by decide) (by decide)) (fun W hW => HR.out W (hW.into (List.mem_append_right _ (by simp)))) (by have := hnt.out; omega) (by decide) (by decide))
  clear hG C7b EA
  rw [List.nil_append] at FA
  go_wp2_with fail
  refine FA.out.mono ?_
  rintro e w6 ⟨va, rfl, hG⟩
  clear FA
  have eF : feedM 64 (gs0 (px0 3 0 p1 p2) 4 4) text = ⟨(feedM 64 (gs0 (px0 3 0 p3 p4) 4 4) text).s.re p1 p2, (feedM 64 (gs0 (px0 3 0 p3 p4) 4 4) text).ms, (feedM 64 (gs0 (px0 3 0 p3 p4) 4 4) text).tl⟩ := feedM_re 64 p1 p2 text (gs0 (px0 3 0 p3 p4) 4 4)
  rw [eF] at hG
  obtain ⟨F, hF⟩ : ∃ F, Hid (F = feedM 64 (gs0 (px0 3 0 p3 p4) 4 4) text) := ⟨_, hid rfl⟩
  rw [← hF.out] at hG
  obtain ⟨x3, y3, z3, hG⟩ := hG.swap3
  obtain ⟨RS, hRS⟩ : ∃ RS, Hid (RS = msC va F.ms :: (gtL Ga Pa (F.s.re p1 p2) F.tl 4 64 x3 y3 z3 ++ [inC w])) := ⟨_, hid rfl⟩
  dsimp only at hG
  rw [← hRS.out] at hG
  have ER : Hid (Evs RS) := hid (by rw [hRS.out]; exact (HE.out.app _).cons _)
  have HB : Hid (∀ W, All RS W → Below w.heap.size w W) := hid (fun W h => by rw [hRS.out] at h; exact h.into (by simp))
  have HRS : Hid (∀ W, All RS W → Reads W (.slice at_ nt ct) text) := hid (fun W h => HR.out W (HB.out W h))
  have G6 : Hid (Gt Gb Pb (gs0 (px0 3 0 p3 p4) 4 4) [] 4 64 (msC (.slice none 0 0) [] :: ownC 5 (.slice none 0 0) (cellsB []) :: RS) w6) := hid hG.noOwn.noMs
  have HI0 : Hid (GsI (gs0 (px0 3 0 p3 p4) 4 4) 64 1) := hid (gs0_I (Or.inl rfl) (by decide) (by decide) (by decide))
  obtain ⟨ava, cva, rfl⟩ : ∃ a c, va = .slice a F.ms.length c := by
    have := hG.rest
    rw [hRS.out] at this
    exact owns_form this.1.2.1
  clear hG eF HE HR
  generalize gs0 (px0 3 0 p3 p4) 4 4 = s0 at *
  go_wp2
  go_loopw [10, 11, 12, 47] (fun u10 u11 u12 u47 wr => ∃ (k f : Nat) (sb : Gs) (tb : List UInt8) (msb : List Ms) (told : List UInt8) (pa : Option Addr) (pc : Nat) (ta : Option Addr) (tc : Nat), u10 = .slice pa msb.length pc ∧ u11 = .slice ta told.length tc ∧ u12 = .int .i64 (f : Int) ∧ u47 = .int .i64 (k : Int) ∧ k ≤ nc ∧ f ≤ nt ∧ Hid (feedM 64 s0 (text.take f) = ⟨sb, msb, told ++ tb⟩) ∧ Hid (Gt Gb Pb sb tb 4 64 (msC (.slice pa msb.length pc) msb :: ownC 5 (.slice ta told.length tc) (cellsB told) :: RS) wr)) (fun u10 u11 u12 u47 wr => nc - (intOf u47).toNat)
  case atStart => exact ⟨0, 0, s0, [], [], [], none, 0, none, 0, rfl, rfl, rfl, rfl, Nat.zero_le _, Nat.zero_le _, hid rfl, G6⟩
  case round =>
    clear G6
    obtain ⟨k, f, sb, tb, msb, told, pa, pc, ta, tc, rfl, rfl, rfl, rfl, hk, hf, HX, HG⟩ := hrel
    have HS : Hid (GsI sb 64 (1 + f) ∧ (told ++ tb).length ≤ f * 4800 ∧ msb.length ≤ f) := hid (by
      obtain ⟨h1, h2⟩ := feedM_I (text.take f) HI0.out (by have := hnt.out; rw [List.length_take]; omega)
      have h3 := (feedM_bare 64 (text.take f) s0).2
      have hl : (text.take f).length = f := by rw [List.length_take]; have := hnt.out; omega
      rw [HX.out] at h1 h2 h3
      rw [hl] at h1 h2 h3
      exact ⟨h1, h2, h3⟩)
    by_cases hlt : k < nc
    · obtain ⟨x, hx⟩ : ∃ x, cuts[k]? = some x := ⟨_, List.getElem?_eq_getElem (by rw [← hnn.out]; exact hlt)⟩
      obtain ⟨hxr, g, o, eac, hcell⟩ := HC.out wr (HB.out wr HG.out.rest.tail.tail) k x hx
      subst eac
      have AM := hid (among_any (w := wr) x ((nt : Int) - (f : Int) + 1) hxr (by omega) (by omega))
      have wa : IntKind.i64.wrap ((nt : Int) - (f : Int)) = (nt : Int) - (f : Int) := by rw [IntKind.wrap_i64]; omega
      have wb : IntKind.i64.wrap ((nt : Int) - (f : Int) + 1) = (nt : Int) - (f : Int) + 1 := by rw [IntKind.wrap_i64]; omega
      have hki : (k : Int) < (nc : Int) := by omega
      clear hx hxr
      go_wp2_with fail
      refine AM.out.mono ?_
      rintro e w7 ⟨a, ha0, ha1, rfl, rfl⟩
      obtain ⟨j, rfl⟩ := Int.eq_ofNat_of_zero_le ha0
      have hfj : f + j ≤ nt := by omega
      obtain ⟨ao', c', hrun, hrd⟩ := cutB_lh at_ nt ct hntc (a := f) (b := j) hfj (y := (f : Int) + j) rfl
      have HT : Hid (text.take (f + j) = text.take f ++ (text.drop f).take j) := hid (List.take_add)
      have hpl : ((text.drop f).take j).length = j := by rw [List.length_take, List.length_drop]; have := hnt.out; omega
      have FB := hid (feed_gt (l := (text.drop f).take j) HG.out ((ER.out.cons _).cons _) HS.out.1 (fun W hW => hrd W _ (HRS.out W hW.tail.tail)) (by omega) (by omega) (by have := HS.out.2.1; rw [List.length_append] at this; omega))
      have hFI := feedM_I ((text.drop f).take j) HS.out.1 (by omega)
      have hFm := (feedM_bare 64 ((text.drop f).take j) sb).2
      have HX2 : Hid (feedM 64 s0 (text.take (f + j)) = ⟨(feedM 64 sb ((text.drop f).take j)).s, msb ++ (feedM 64 sb ((text.drop f).take j)).ms, told ++ (tb ++ (feedM 64 sb ((text.drop f).take j)).tl)⟩) := hid (by
        rw [HT.out, feedM_append, HX.out]
        simp only [List.append_assoc])
      rw [hpl] at hFI hFm
      have HFI := hid hFI
      have HFm := hid hFm
      have wf : IntKind.i64.wrap ((f : Int) + (j : Int)) = (f : Int) + (j : Int) := by rw [IntKind.wrap_i64]; omega
      have j0 : (0 : Int) ≤ (j : Int) := by omega
      clear HX HG AM wa wb ha0 ha1 hFI hFm HT hrd hpl hcell
      generalize feedM 64 sb ((text.drop f).take j) = q at *
      obtain ⟨sb2, ms2, tl2⟩ := q
      dsimp only at FB HX2 HFI HFm
      have HSI := hid (show k + 1 ≤ nc ∧ f + j ≤ nt ∧ (told ++ (tb ++ tl2)).length ≤ 100000000000 ∧ (msb.length + ms2.length) * 264 ≤ 140737488355328 by
        refine ⟨hlt, hfj, ?_, ?_⟩
        · have h1 := HS.out.2.1
          have h2 := HFI.out.2
          simp only [List.length_append] at h1 h2 ⊢
          omega
        · have h1 := HS.out.2.2
          have h2 := HFm.out
          omega)
      generalize htq : tb ++ tl2 = tq at *
      clear htq
      have HL := hid (show (msb ++ ms2).length = msb.length + ms2.length from List.length_append)
      have HL2 := hid (show (told ++ tq).length = told.length + tq.length from List.length_append)
      have HI1 := hid (show (f : Int) + (j : Int) = ((f + j : Nat) : Int) by omega)
      have HI2 := hid (show (k : Int) + 1 = ((k + 1 : Nat) : Int) by omega)
      go_wp2_with fail
      refine FB.out.mono ?_
      rintro e w8 ⟨v2, rfl, hG8⟩
      obtain ⟨a2, c2, rfl, ao3, c3, w9, hr3, hG9⟩ := hG8.appMs HSI.out.2.2.2
      have G9 := hid hG9
      have R3 := hid hr3
      clear hG8 hG9 hr3 FB
      by_cases h3 : x.tmod 3 = 0
      · have e3 : (x.tmod 3 == 0) = true := by rw [h3]; rfl
        have OU := hid (Out_gt G9.out)
        clear h3
        go_wp2_with (at_builtin; refine wpList_append_run rfl _ _ 59 rfl _ _ _ _ rfl rfl R3.out ?_)
        refine OU.out.mono ?_
        rintro e w10 ⟨vo, rfl, hG10⟩
        obtain ⟨a4, c4, rfl, ao5, c5, w11, hr5, hG11⟩ := hG10.appOwn (told := told) (p := tq) (by have := HSI.out.2.2.1; rw [List.length_append] at this; omega)
        have G11 := hid hG11
        have R5 := hid hr5
        clear hG10 hG11 hr5 OU
        go_wp2_with (at_builtin; refine wpList_append_run rfl _ _ 40 rfl _ _ _ _ rfl rfl R5.out ?_)
        have HX3 : Hid (feedM 64 s0 (List.take (f + j) text) = { s := sb2, ms := msb ++ ms2, tl := (told ++ (tq)) ++ [] }) := hid (by rw [List.append_nil]; exact HX2.out)
        refine ⟨⟨k + 1, f + j, sb2, [], msb ++ ms2, told ++ (tq), ao3, c3, ao5, c5, by rw [HL.out], by rw [HL2.out], congrArg (Value.int .i64) HI1.out, congrArg (Value.int .i64) HI2.out, HSI.out.1, HSI.out.2.1, HX3, ?_⟩, ?_⟩
        · exact G11
        · simp only [intOf]; omega
      · have e3 : (x.tmod 3 == 0) = false := by rw [beq_eq_false_iff_ne]; exact h3
        clear h3
        go_wp2_with (at_builtin; refine wpList_append_run rfl _ _ 59 rfl _ _ _ _ rfl rfl R3.out ?_)
        refine ⟨⟨k + 1, f + j, sb2, tq, msb ++ ms2, told, ao3, c3, ta, tc, by rw [HL.out], rfl, congrArg (Value.int .i64) HI1.out, congrArg (Value.int .i64) HI2.out, HSI.out.1, HSI.out.2.1, HX2, ?_⟩, ?_⟩
        · exact G9
        · simp only [intOf]; omega
    · have hkn : k = nc := by omega
      subst hkn
      clear hlt HC
      obtain ⟨ao', c', hrun, hrd⟩ := cutB_l at_ nt ct hntc (a := f) hf
      have hpl : (text.drop f).length = nt - f := by rw [List.length_drop]; have := hnt.out; omega
      have FB := hid (feed_gt (l := text.drop f) HG.out ((ER.out.cons _).cons _) HS.out.1 (fun W hW => hrd W _ (HRS.out W hW.tail.tail)) (by omega) (by omega) (by have := HS.out.2.1; rw [List.length_append] at this; omega))
      have hFI := feedM_I (text.drop f) HS.out.1 (by omega)
      have hFm := (feedM_bare 64 (text.drop f) sb).2
      have HX2 : F = ⟨(feedM 64 sb (text.drop f)).s, msb ++ (feedM 64 sb (text.drop f)).ms, told ++ (tb ++ (feedM 64 sb (text.drop f)).tl)⟩ := by
        rw [hF.out]
        conv => lhs; rw [← List.take_append_drop f text]
        rw [feedM_append, HX.out]
        simp only [List.append_assoc]
      have HBA : Hid (∀ x ∈ F.ms, x.bare) := hid (by rw [hF.out]; exact (feedM_bare 64 text s0).1)
      have HML : Hid (F.ms.length ≤ 1000000000) := hid (by
        have := (feedM_bare 64 text s0).2
        rw [← hF.out] at this
        have := hnt.out
        omega)
      rw [hpl] at hFI hFm
      generalize feedM 64 sb (text.drop f) = q at *
      obtain ⟨sb2, ms2, tl2⟩ := q
      dsimp only at FB HX2 hFI hFm
      subst HX2
      dsimp only at hRS hF HBA HML
      have HSI := hid (show (told ++ (tb ++ tl2)).length ≤ 100000000000 ∧ (msb.length + ms2.length) * 264 ≤ 140737488355328 by
        refine ⟨?_, ?_⟩
        · have h1 := HS.out.2.1
          have h2 := hFI.2
          simp only [List.length_append] at h1 h2 ⊢
          omega
        · have h1 := HS.out.2.2
          have h2 := hFm
          omega)
      clear HX HG hFI hFm hrd hpl hF HS HRS HI0 ER
      generalize htq : tb ++ tl2 = tq at *
      clear htq
      go_wp2_with fail
      refine FB.out.mono ?_
      rintro e w8 ⟨v2, rfl, hG8⟩
      obtain ⟨a2, c2, rfl, ao3, c3, w9, hr3, hG9⟩ := hG8.appMs HSI.out.2
      have G9 := hid hG9
      have R3 := hid hr3
      have OU := hid (Out_gt G9.out)
      clear hG8 hG9 hr3 FB
      go_wp2_with (at_builtin; refine wpList_append_run rfl _ _ 59 rfl _ _ _ _ rfl rfl R3.out ?_)
      refine OU.out.mono ?_
      rintro e w10 ⟨vo, rfl, hG10⟩
      obtain ⟨a4, c4, rfl, ao5, c5, w11, hr5, hG11⟩ := hG10.appOwn (told := told) (p := tq) (by have := HSI.out.1; rw [List.length_append] at this; omega)
      have R5 := hid hr5
      rw [hRS.out] at hG11
      obtain ⟨xa, ya, za, hG12⟩ := Gt.swapL (L := [msC (.slice ao3 (msb ++ ms2).length c3) (msb ++ ms2), ownC 5 (.slice ao5 (told ++ tq).length c5) (cellsB (told ++ tq)), msC (.slice ava (msb ++ ms2).length cva) (msb ++ ms2)]) hG11
      have WA := hid (Waits_gt hG12)
      clear hG10 hG11 hr5 OU hG12 R3 G9 HSI HB hRS
      go_wp2_with (at_builtin; refine wpList_append_run rfl _ _ 40 rfl _ _ _ _ rfl rfl R5.out ?_)
      refine WA.out.mono ?_
      rintro e w12 ⟨rfl, hG13⟩
      obtain ⟨xb, yb, zb, hG14⟩ := Gt.swapL (L := [msC (.slice ao3 (msb ++ ms2).length c3) (msb ++ ms2), ownC 5 (.slice ao5 (told ++ tq).length c5) (cellsB (told ++ tq)), msC (.slice ava (msb ++ ms2).length cva) (msb ++ ms2)]) hG13
      have WB := hid (Waits_gt hG14)
      have ew1 : ((sb2.re p1 p2).ws.length : Int) = (sb2.ws.length : Int) := rfl
      have ew2 : wtN (sb2.re p1 p2) = wtN sb2 := rfl
      rw [ew1, ew2]
      generalize (sb2.ws.length : Int) = q1 at *
      generalize wtN sb2 = q2 at *
      clear ew1 ew2 WA hG13 hG14 R5
      go_wp2_with fail
      refine WB.out.mono ?_
      rintro e w13 ⟨rfl, hG15⟩
      obtain ⟨xc, yc, zc, ya', yb', yc', A16⟩ := Gt.swapL (L := [msC (.slice ao3 (msb ++ ms2).length c3) (msb ++ ms2), ownC 5 (.slice ao5 (told ++ tq).length c5) (cellsB (told ++ tq)), msC (.slice ava (msb ++ ms2).length cva) (msb ++ ms2)]) hG15
      have A17 := A16.perm (show List.Perm _ (msC (.slice ava (msb ++ ms2).length cva) (msb ++ ms2) :: msC (.slice ao3 (msb ++ ms2).length c3) (msb ++ ms2) :: ownC 5 (.slice ao5 (told ++ tq).length c5) (cellsB (told ++ tq)) :: (gtL Ga Pa (sb2.re p1 p2) (told ++ tq) 4 64 ya' yb' yc' ++ (gtL Gb Pb sb2 [] 4 64 xc yc zc ++ [inC w]))) from by
        refine (List.perm_append_comm_assoc _ [_, _, _] _).trans ?_
        refine (List.Perm.cons _ (List.Perm.swap _ _ _)).trans ?_
        exact List.Perm.swap _ _ _)
      obtain ⟨a6, c6, rfl⟩ : ∃ a c, yc' = .slice a (told.length + tq.length) c := by
        obtain ⟨a, c, h⟩ := owns_form A17.tail.tail.tail.tail.tail.1.2.1
        rw [cellsB_length, List.length_append] at h
        exact ⟨a, c, h⟩
      have HCV : Hid (∀ W, All (msC (.slice ava (msb ++ ms2).length cva) (msb ++ ms2) :: msC (.slice ao3 (msb ++ ms2).length c3) (msb ++ ms2) :: ownC 5 (.slice ao5 (told ++ tq).length c5) (cellsB (told ++ tq)) :: (gtL Ga Pa (sb2.re p1 p2) (told ++ tq) 4 64 ya' yb' (.slice a6 (told.length + tq.length) c6) ++ (gtL Gb Pb sb2 [] 4 64 xc yc zc ++ [inC w]))) W → (convert 40 9 (.slice ao5 (told.length + tq.length) c5)).run Tryz.prog W = .ok (.string ⟨(told ++ tq).toArray⟩) W ∧ (convert 40 9 (.slice a6 (told.length + tq.length) c6)).run Tryz.prog W = .ok (.string ⟨(told ++ tq).toArray⟩) W) := hid (by
        intro W hA
        have h1 := conv_string (reads_own hA.tail.tail)
        have h2 := conv_string (reads_own hA.tail.tail.tail.tail.tail)
        rw [List.length_append] at h1
        exact ⟨h1, h2⟩)
      have HOUT : Hid (∀ W, All (msC (.slice ava (msb ++ ms2).length cva) (msb ++ ms2) :: msC (.slice ao3 (msb ++ ms2).length c3) (msb ++ ms2) :: ownC 5 (.slice ao5 (told ++ tq).length c5) (cellsB (told ++ tq)) :: (gtL Ga Pa (sb2.re p1 p2) (told ++ tq) 4 64 ya' yb' (.slice a6 (told.length + tq.length) c6) ++ (gtL Gb Pb sb2 [] 4 64 xc yc zc ++ [inC w]))) W → Calls Tryz.prog 16 #[.pointer (some ⟨Ga, 0, none⟩)] W fun e w' => e = .returned (.slice a6 (told.length + tq.length) c6) ∧ (convert 40 9 (.slice ao5 (told.length + tq.length) c5)).run Tryz.prog w' = .ok (.string ⟨(told ++ tq).toArray⟩) w' ∧ (convert 40 9 (.slice a6 (told.length + tq.length) c6)).run Tryz.prog w' = .ok (.string ⟨(told ++ tq).toArray⟩) w' ∧ Below w.heap.size w w') := hid (by
        intro W hA
        have hA2 : All (gtL Ga Pa (sb2.re p1 p2) (told ++ tq) 4 64 ya' yb' (.slice a6 (told.length + tq.length) c6) ++ (msC (.slice ava (msb ++ ms2).length cva) (msb ++ ms2) :: msC (.slice ao3 (msb ++ ms2).length c3) (msb ++ ms2) :: ownC 5 (.slice ao5 (told ++ tq).length c5) (cellsB (told ++ tq)) :: (gtL Gb Pb sb2 [] 4 64 xc yc zc ++ [inC w]))) W := hA.perm (List.perm_append_comm_assoc [_, _, _] _ _)
        refine (Out_at hA2).mono ?_
        rintro e w' ⟨rfl, hG2⟩
        have h1 := conv_string (reads_own hG2.rest)
        have h2 := conv_string (reads_own hG2.rest.tail.tail.tail)
        rw [List.length_append] at h2
        exact ⟨rfl, h2, h1, hG2.rest.into (by simp)⟩)
      obtain ⟨K1, K2⟩ := HCV.out _ A17.drew
      have SA : Hid (Calls Tryz.prog 18 #[.slice ava (msb.length + ms2.length) cva, .slice ao3 (msb.length + ms2.length) c3] w13.drew fun e w' => e = .returned (.bool true) ∧ (convert 40 9 (.slice ao5 (told.length + tq.length) c5)).run Tryz.prog w' = .ok (.string ⟨(told ++ tq).toArray⟩) w' ∧ (convert 40 9 (.slice a6 (told.length + tq.length) c6)).run Tryz.prog w' = .ok (.string ⟨(told ++ tq).toArray⟩) w' ∧ Calls Tryz.prog 16 #[.pointer (some ⟨Ga, 0, none⟩)] w' fun e w' => e = .returned (.slice a6 (told.length + tq.length) c6) ∧ (convert 40 9 (.slice ao5 (told.length + tq.length) c5)).run Tryz.prog w' = .ok (.string ⟨(told ++ tq).toArray⟩) w' ∧ (convert 40 9 (.slice a6 (told.length + tq.length) c6)).run Tryz.prog w' = .ok (.string ⟨(told ++ tq).toArray⟩) w' ∧ Below w.heap.size w w') := hid (by
        have hl : (msb ++ ms2).length = msb.length + ms2.length := List.length_append
        rw [← hl]
        refine (said_any A17.drew HBA.out HML.out).mono ?_
        rintro e w' ⟨rfl, hA⟩
        obtain ⟨k1, k2⟩ := HCV.out _ hA
        exact ⟨rfl, k1, k2, HOUT.out _ hA⟩)
      clear hG15 A16 A17 WB HOUT HCV HBA HML
      generalize msb.length + ms2.length = n1 at *
      generalize told.length + tq.length = n2 at *
      obtain ⟨SS, hSS⟩ : ∃ s, s = (⟨(told ++ tq).toArray⟩ : ByteArray) := ⟨_, rfl⟩
      rw [← hSS] at SA K1 K2
      clear hSS
      go_wp2_with fail
      go_region_held3 (fun W => (convert 40 9 (.slice ao5 n2 c5)).run Tryz.prog W = .ok (.string SS) W ∧ (convert 40 9 (.slice a6 n2 c6)).run Tryz.prog W = .ok (.string SS) W) ((constructor <;> assumption)) (first
        | (go_at_call 18; refine SA.out.mono ?_; rintro e w14 ⟨rfl, k1, k2, OU'⟩; have OU := hid OU'; clear OU')
        | (go_at_call 16; refine OU.out.mono ?_; rintro e w15 ⟨rfl, k3, k4, hB⟩; have HB15 := hid hB; clear hB OU))
      all_goals
        go_wp2
        go_ret
        exact ⟨rfl, HB15.out⟩
end Go.Proofs.YtdhkdniddjnigaaGreatDoor

namespace Go.Proofs.YtdhkdniddjnigaaGreatDoor
open Go.ChangeShapes Go.WideShapes Go.ChangeAt Go.RowKit Go.Deep Go.Joins
set_option linter.unusedVariables false

theorem Tryz.own : ownKnob Tryz.prog.godebug = none := by kernel_rfl
theorem Tryz.laidOut : laidOutB Tryz.prog = true := by kernel_rfl
theorem Tryz.gES : Tryz.prog.globalNamed "strconv.ErrSyntax" = some 8 := by kernel_rfl
theorem Tryz.gEST : (Tryz.prog.globals[8]?).map (·.type) = some 190 := by kernel_rfl
theorem Tryz.gER : Tryz.prog.globalNamed "strconv.ErrRange" = some 9 := by kernel_rfl
theorem Tryz.gERT : (Tryz.prog.globals[9]?).map (·.type) = some 190 := by kernel_rfl
theorem Tryz.gPW : Tryz.prog.globalNamed "internal/strconv.uint64pow10" = some 4 := by kernel_rfl
theorem Tryz.gPWT : (Tryz.prog.globals[4]?).map (·.type) = some 248 := by kernel_rfl
theorem Tryz.cellsES : Tryz.prog.cellsOf 279 = 1 := by kernel_rfl
theorem Tryz.cells9 : Tryz.prog.cellsOf 9 = 1 := by kernel_rfl
theorem Tryz.star : "*" ++ "errors.errorString" = "*errors.errorString" := by decide
theorem Tryz.rowES (u : TypeId) (h : Tryz.prog.typeName? 3 u = some "*errors.errorString") : u = 277 :=
  typeName_ptr_named (nm := "errors.errorString") (by rw [Tryz.star]; kernel_rfl) (by kernel_rfl) (by decide) u (by rw [Tryz.star]; exact h)

/-- What the rows' list gives. -/
theorem vars_of_laid {a b : String × DataW Unit} {r : List (String × DataW Unit)} {W : World} (h : laidMet Tryz.prog (a :: b :: ("internal/strconv.uint64pow10", Rows.laid_internal_strconv_uint64pow10) :: ("strconv.ErrRange", Rows.laid_strconv_ErrRange) :: ("strconv.ErrSyntax", Rows.laid_strconv_ErrSyntax) :: r) W) : Vars W := by
  have h1 := h.tail.tail
  obtain ⟨a1, s1, v1, _⟩ := laid_sentinel h1.tail Tryz.gER Tryz.gERT Tryz.underlying190 Tryz.rowES Tryz.underlying277 Tryz.underlying279 rfl rfl Tryz.underlying9 Tryz.cellsES Tryz.cells9
  obtain ⟨a2, s2, v2, _⟩ := laid_sentinel h1.tail.tail Tryz.gES Tryz.gEST Tryz.underlying190 Tryz.rowES Tryz.underlying277 Tryz.underlying279 rfl rfl Tryz.underlying9 Tryz.cellsES Tryz.cells9
  exact ⟨⟨_, _, v2⟩, ⟨_, _, v1⟩, Lib.tabIs_of_head (n := 20) (e := 222) Tryz.gPW Tryz.gPWT Tryz.underlying248 Tryz.underlying222 (by kernel_rfl) (by kernel_rfl) h1⟩

def deB32 : List Int := [0, 1, 28, 2, 29, 14, 24, 3, 30, 22, 20, 15, 25, 17, 4, 8, 31, 27, 13, 23, 21, 19, 16, 7, 26, 12, 18, 6, 11, 5, 10, 9]
def deB64 : List Int := [0, 1, 56, 2, 57, 49, 28, 3, 61, 58, 42, 50, 38, 29, 17, 4, 62, 47, 59, 36, 45, 43, 51, 22, 53, 39, 33, 30, 24, 18, 12, 5, 63, 55, 48, 27, 60, 41, 37, 16, 46, 35, 44, 21, 52, 32, 23, 11, 54, 26, 40, 15, 34, 20, 31, 10, 25, 14, 19, 9, 13, 8, 7, 6]
noncomputable def low : Nat := (World.holding Tryz.prog default ⟨#[], #[], []⟩).heap.size
/-- A world for the witness. -/
noncomputable def laidWorld (os : Os) : World :=
  let w0 := World.holding Tryz.prog os ⟨#[.cells #[.string ⟨#[105, 110, 118, 97, 108, 105, 100, 32, 115, 121, 110, 116, 97, 120]⟩] 279, .cells #[.string ⟨#[118, 97, 108, 117, 101, 32, 111, 117, 116, 32, 111, 102, 32, 114, 97, 110, 103, 101]⟩] 279], #[], []⟩
  { w0 with heap := (((((((w0.heap.modify 8 fun
      | .cells _ t frozen => .cells #[.iface 277 (.pointer (some ⟨low, 0, none⟩))] t frozen
      | o => o).modify 9 fun
      | .cells _ t frozen => .cells #[.iface 277 (.pointer (some ⟨low + 1, 0, none⟩))] t frozen
      | o => o).modify 4 fun
      | .cells _ t frozen => .cells (Lib.pow10Tab.map fun z : Int => Value.int .u64 z).toArray t frozen
      | o => o).modify 6 fun
      | .cells _ t frozen => .cells (deB32.map fun z : Int => Value.int .u8 z).toArray t frozen
      | o => o).modify 7 fun
      | .cells _ t frozen => .cells (deB64.map fun z : Int => Value.int .u8 z).toArray t frozen
      | o => o).modify 3 fun
      | .cells _ t frozen => .cells (formN.map fun n : Int => Value.int .i64 n).toArray t frozen
      | o => o).modify 5 fun
      | .cells _ t frozen => .cells (wfN.flatMap fun p => [Value.string ⟨p.1.toArray⟩, Value.string ⟨p.2.toArray⟩]).toArray t frozen
      | o => o) }
end Go.Proofs.YtdhkdniddjnigaaGreatDoor

namespace Go.Proofs.YtdhkdniddjnigaaGreatDoor
open Go.ChangeShapes Go.WideShapes Go.ChangeAt Go.RowKit Go.Deep Go.Joins
set_option linter.unusedVariables false

theorem Tryz.gTab : Tryz.prog.globalNamed "flotilla/shelf.forms" = some 3 := by kernel_rfl
theorem Tryz.gTabType : (Tryz.prog.globals[3]?).map (·.type) = some 244 := by kernel_rfl
theorem Tryz.cells244 : Tryz.prog.cellsOf 244 = 72 := by kernel_rfl
theorem Tryz.cells243 : Tryz.prog.cellsOf 243 = 8 := by kernel_rfl
theorem Tryz.cells241 : Tryz.prog.cellsOf 241 = 2 := by kernel_rfl
theorem Tryz.cells3 : Tryz.prog.cellsOf 3 = 1 := by kernel_rfl
theorem Tryz.und244 : Tryz.prog.underlying 244 = some (.array 9 243) := by kernel_rfl

theorem map_at {α β : Type} {f : α → β} {xs : List α} {ys : List β} (h : xs.map f = ys) {i : Nat} {d : β} (hd : ys[i]? = some d) : ∃ y, xs[i]? = some y ∧ f y = d := by
  rw [← h, List.getElem?_map, Option.map_eq_some_iff] at hd
  exact hd

section
variable {H : Type} {enc : TypeId × Value → H} {W : World} {base : Nat} {sp : Nat → Bool} {held : Bool} {fuel : Nat} {cs : List Value} {p : List MemPlace}
def spanD (a b : Int) : DataW H := .agg [.lit (.int .i64 a), .lit (.int .i64 b)]
theorem int_cells {n : Nat} {x : DataW H × List MemPlace} {a : Int} (h : DataW.trod enc Tryz.prog W base sp held n 3 cs = some x) (hx : x.1 = .lit (.int .i64 a)) : cs = [.int .i64 a] := by
  obtain ⟨z, e, r, _⟩ := DataW.trod_int Tryz.underlying3 h
  subst r
  simp only [DataW.lit.injEq, Lit.int.injEq, true_and] at hx
  subst hx
  exact e
theorem list2 {l : List Value} {a b : Value} (hl : l.length = 2) (h0 : (l.drop 0).take 1 = [a]) (h1 : (l.drop 1).take 1 = [b]) : l = [a, b] := by
  match l, hl with
  | [x, y], _ => simp at h0 h1; simp [h0, h1]
theorem list8 {l : List Value} {a b c d e f g h : Value} (hl : l.length = 8) (h0 : (l.drop 0).take 2 = [a, b]) (h1 : (l.drop 2).take 2 = [c, d]) (h2 : (l.drop 4).take 2 = [e, f]) (h3 : (l.drop 6).take 2 = [g, h]) : l = [a, b, c, d, e, f, g, h] := by
  match l, hl with
  | [x0, x1, x2, x3, x4, x5, x6, x7], _ => simp at h0 h1 h2 h3; simp [h0, h1, h2, h3]
set_option maxRecDepth 100000 in
theorem span_cells {x : DataW H × List MemPlace} {a b : Int} (h : DataW.trod enc Tryz.prog W base sp held fuel 241 cs = some x) (hx : x.1 = spanD a b) : cs = [.int .i64 a, .int .i64 b] := by
  obtain ⟨xs, n, _, hx', hl, hlen, hf⟩ := DataW.trod_struct Tryz.underlying241 h
  subst hx'
  have hx : xs.map (·.1) = [.lit (.int .i64 a), .lit (.int .i64 b)] := by simp only [spanD] at hx; injection hx
  obtain ⟨y0, hy0, e0⟩ := map_at hx (i := 0) rfl
  obtain ⟨y1, hy1, e1⟩ := map_at hx (i := 1) rfl
  have g0 : DataW.trod enc Tryz.prog W base sp held n 3 ((cs.drop 0).take (Tryz.prog.cellsOf 3)) = some y0 := (hf 0 _ rfl).trans hy0
  have g1 : DataW.trod enc Tryz.prog W base sp held n 3 ((cs.drop 1).take (Tryz.prog.cellsOf 3)) = some y1 := (hf 1 _ rfl).trans hy1
  rw [Tryz.cells3] at g0 g1
  rw [Tryz.cells241] at hl
  exact list2 hl (int_cells g0 e0) (int_cells g1 e1)
set_option maxRecDepth 100000 in
theorem form_cells {x : DataW H × List MemPlace} {a0 a1 a2 a3 a4 a5 a6 a7 : Int} (h : DataW.trod enc Tryz.prog W base sp held fuel 243 cs = some x) (hx : x.1 = .agg [spanD a0 a1, spanD a2 a3, spanD a4 a5, spanD a6 a7]) : cs = [.int .i64 a0, .int .i64 a1, .int .i64 a2, .int .i64 a3, .int .i64 a4, .int .i64 a5, .int .i64 a6, .int .i64 a7] := by
  obtain ⟨xs, n, _, hx', hl, hlen, hf⟩ := DataW.trod_struct Tryz.underlying243 h
  subst hx'
  have hx : xs.map (·.1) = [spanD a0 a1, spanD a2 a3, spanD a4 a5, spanD a6 a7] := by injection hx
  obtain ⟨y0, hy0, e0⟩ := map_at hx (i := 0) rfl
  obtain ⟨y1, hy1, e1⟩ := map_at hx (i := 1) rfl
  obtain ⟨y2, hy2, e2⟩ := map_at hx (i := 2) rfl
  obtain ⟨y3, hy3, e3⟩ := map_at hx (i := 3) rfl
  have g0 : DataW.trod enc Tryz.prog W base sp held n 241 ((cs.drop 0).take (Tryz.prog.cellsOf 241)) = some y0 := (hf 0 _ rfl).trans hy0
  have g1 : DataW.trod enc Tryz.prog W base sp held n 241 ((cs.drop 2).take (Tryz.prog.cellsOf 241)) = some y1 := (hf 1 _ rfl).trans hy1
  have g2 : DataW.trod enc Tryz.prog W base sp held n 241 ((cs.drop 4).take (Tryz.prog.cellsOf 241)) = some y2 := (hf 2 _ rfl).trans hy2
  have g3 : DataW.trod enc Tryz.prog W base sp held n 241 ((cs.drop 6).take (Tryz.prog.cellsOf 241)) = some y3 := (hf 3 _ rfl).trans hy3
  rw [Tryz.cells241] at g0 g1 g2 g3
  rw [Tryz.cells243] at hl
  exact list8 hl (span_cells g0 e0) (span_cells g1 e1) (span_cells g2 e2) (span_cells g3 e3)
end

set_option maxRecDepth 100000 in
/-- What the rows' list gives. -/
theorem tab_of_laid {a b c d e : String × DataW Unit} {r : List (String × DataW Unit)} {W : World} (h : laidMet Tryz.prog (a :: b :: c :: d :: e :: ("flotilla/shelf.forms", Rows.laid_flotilla_shelf_forms) :: r) W) : Tab W := by
  obtain ⟨ps, ⟨g', t', cs, fuel, p, q, hg', ht', hvar, hd, _, _⟩, _⟩ := h.tail.tail.tail.tail.tail
  obtain rfl := Option.some.inj (Tryz.gTab.symm.trans hg')
  obtain rfl := Option.some.inj (Tryz.gTabType.symm.trans ht')
  obtain ⟨xs, m, _, hx, hl, hlen, hf⟩ := DataW.trod_array Tryz.und244 hd
  rw [Tryz.cells244] at hl
  rw [Tryz.cells243] at hf
  have hxs : xs.map (·.1) = [.agg [spanD 0 0, spanD 0 0, spanD 0 0, spanD 0 0], .agg [spanD 1 16, spanD 0 0, spanD 0 0, spanD 0 0], .agg [spanD 1 16, spanD 0 0, spanD 0 0, spanD 0 0], .agg [spanD 1 16, spanD 0 64, spanD 0 0, spanD 0 0], .agg [spanD 1 16, spanD 0 0, spanD 0 1099511627776, spanD 0 0], .agg [spanD 1 16, spanD 1 16, spanD 0 0, spanD 0 0], .agg [spanD 1 16, spanD 0 0, spanD 0 1099511627776, spanD 1 8], .agg [spanD 1 16, spanD 0 0, spanD 0 0, spanD 0 0], .agg [spanD 0 0, spanD 0 0, spanD 0 0, spanD 0 0]] := by
    have := congrArg Prod.fst hx
    have e : (.agg (xs.map (·.1)) : DataW Unit) = Rows.laid_flotilla_shelf_forms := this.symm
    injection e
  obtain ⟨y0, hy0, e0⟩ := map_at hxs (i := 0) rfl
  have c0 : (cs.toList.drop (0 * 8)).take 8 = [Value.int .i64 0, .int .i64 0, .int .i64 0, .int .i64 0, .int .i64 0, .int .i64 0, .int .i64 0, .int .i64 0] := form_cells ((hf 0 (by omega)).trans hy0) e0
  obtain ⟨y1, hy1, e1⟩ := map_at hxs (i := 1) rfl
  have c1 : (cs.toList.drop (1 * 8)).take 8 = [Value.int .i64 1, .int .i64 16, .int .i64 0, .int .i64 0, .int .i64 0, .int .i64 0, .int .i64 0, .int .i64 0] := form_cells ((hf 1 (by omega)).trans hy1) e1
  obtain ⟨y2, hy2, e2⟩ := map_at hxs (i := 2) rfl
  have c2 : (cs.toList.drop (2 * 8)).take 8 = [Value.int .i64 1, .int .i64 16, .int .i64 0, .int .i64 0, .int .i64 0, .int .i64 0, .int .i64 0, .int .i64 0] := form_cells ((hf 2 (by omega)).trans hy2) e2
  obtain ⟨y3, hy3, e3⟩ := map_at hxs (i := 3) rfl
  have c3 : (cs.toList.drop (3 * 8)).take 8 = [Value.int .i64 1, .int .i64 16, .int .i64 0, .int .i64 64, .int .i64 0, .int .i64 0, .int .i64 0, .int .i64 0] := form_cells ((hf 3 (by omega)).trans hy3) e3
  obtain ⟨y4, hy4, e4⟩ := map_at hxs (i := 4) rfl
  have c4 : (cs.toList.drop (4 * 8)).take 8 = [Value.int .i64 1, .int .i64 16, .int .i64 0, .int .i64 0, .int .i64 0, .int .i64 1099511627776, .int .i64 0, .int .i64 0] := form_cells ((hf 4 (by omega)).trans hy4) e4
  obtain ⟨y5, hy5, e5⟩ := map_at hxs (i := 5) rfl
  have c5 : (cs.toList.drop (5 * 8)).take 8 = [Value.int .i64 1, .int .i64 16, .int .i64 1, .int .i64 16, .int .i64 0, .int .i64 0, .int .i64 0, .int .i64 0] := form_cells ((hf 5 (by omega)).trans hy5) e5
  obtain ⟨y6, hy6, e6⟩ := map_at hxs (i := 6) rfl
  have c6 : (cs.toList.drop (6 * 8)).take 8 = [Value.int .i64 1, .int .i64 16, .int .i64 0, .int .i64 0, .int .i64 0, .int .i64 1099511627776, .int .i64 1, .int .i64 8] := form_cells ((hf 6 (by omega)).trans hy6) e6
  obtain ⟨y7, hy7, e7⟩ := map_at hxs (i := 7) rfl
  have c7 : (cs.toList.drop (7 * 8)).take 8 = [Value.int .i64 1, .int .i64 16, .int .i64 0, .int .i64 0, .int .i64 0, .int .i64 0, .int .i64 0, .int .i64 0] := form_cells ((hf 7 (by omega)).trans hy7) e7
  obtain ⟨y8, hy8, e8⟩ := map_at hxs (i := 8) rfl
  have c8 : (cs.toList.drop (8 * 8)).take 8 = [Value.int .i64 0, .int .i64 0, .int .i64 0, .int .i64 0, .int .i64 0, .int .i64 0, .int .i64 0, .int .i64 0] := form_cells ((hf 8 (by omega)).trans hy8) e8
  have hall : ∀ i, i < 72 → cs.toList[i]? = some (.int .i64 (formN.getD i 0)) := by
    intro i hi
    have hc : ∀ r, r < 9 → (cs.toList.drop (r * 8)).take 8 = ((formN.drop (r * 8)).take 8).map (Value.int .i64) := by
      intro r hr
      obtain rfl | rfl | rfl | rfl | rfl | rfl | rfl | rfl | rfl : r = 0 ∨ r = 1 ∨ r = 2 ∨ r = 3 ∨ r = 4 ∨ r = 5 ∨ r = 6 ∨ r = 7 ∨ r = 8 := by omega
      · exact c0
      · exact c1
      · exact c2
      · exact c3
      · exact c4
      · exact c5
      · exact c6
      · exact c7
      · exact c8
    have h1 := congrArg (fun l => l[i % 8]?) (hc (i / 8) (by omega))
    simp only [List.getElem?_take, List.getElem?_drop, List.getElem?_map] at h1
    rw [if_pos (by omega), if_pos (by omega)] at h1
    have e : i / 8 * 8 + i % 8 = i := by omega
    rw [e] at h1
    rw [h1, List.getD_eq_getElem?_getD, List.getElem?_eq_getElem (by simpa [formN] using hi)]
    rfl
  have hcell : ∀ i, i < 72 → W.cell? ⟨3, i, none⟩ = some (.int .i64 (formN.getD i 0)) := by
    intro i hi
    have := World.var?_cell Tryz.gTab hvar i
    rw [this]
    simpa using hall i hi
  exact ⟨World.block_lt_of_cell? W _ (hcell 0 (by omega)), hcell⟩

theorem str_cells {H : Type} {enc : TypeId × Value → H} {W : World} {base : Nat} {sp : Nat → Bool} {held : Bool} {n : Nat} {cs : List Value} {x : DataW H × List MemPlace} {l : List UInt8} (h : DataW.trod enc Tryz.prog W base sp held n 9 cs = some x) (hx : x.1 = .lit (.string l)) : cs = [.string ⟨l.toArray⟩] := by
  obtain ⟨s, e, r, _⟩ := DataW.trod_string Tryz.underlying9 h
  subst r
  simp only [DataW.lit.injEq, Lit.string.injEq] at hx
  subst hx
  simpa using e
theorem Tryz.gWf : Tryz.prog.globalNamed "flotilla/words.forms" = some 5 := by kernel_rfl
theorem Tryz.gWfType : (Tryz.prog.globals[5]?).map (·.type) = some 256 := by kernel_rfl
theorem Tryz.cells256 : Tryz.prog.cellsOf 256 = 18 := by kernel_rfl
theorem Tryz.cells255 : Tryz.prog.cellsOf 255 = 2 := by kernel_rfl
theorem Tryz.cells42 : Tryz.prog.cellsOf 42 = 5 := by kernel_rfl
theorem Tryz.bytes9 : Tryz.prog.bytesOf 9 = 16 := by kernel_rfl
theorem Tryz.und256 : Tryz.prog.underlying 256 = some (.array 9 255) := by kernel_rfl
theorem nth {α : Type} {l : List α} {n i : Nat} (hl : l.length = n) (hi : i < n) : ∃ y, l[i]? = some y := ⟨_, List.getElem?_eq_getElem (by omega)⟩
theorem i64_wf {n : Int} (h : (Lit.int .i64 n).wf = true) : -9223372036854775808 ≤ n ∧ n < 9223372036854775808 := by
  have : -9223372036854775808 ≤ n ∧ n ≤ 9223372036854775807 := by simpa [Lit.wf, IntKind.min, IntKind.max, IntKind.signed, IntKind.bits] using h
  omega
theorem list5 {l : List Value} {a b c d e : Value} (hl : l.length = 5) (h0 : (l.drop 0).take 1 = [a]) (h1 : (l.drop 1).take 1 = [b]) (h2 : (l.drop 2).take 1 = [c]) (h3 : (l.drop 3).take 1 = [d]) (h4 : (l.drop 4).take 1 = [e]) : l = [a, b, c, d, e] := by
  match l, hl with
  | [x0, x1, x2, x3, x4], _ => simp at h0 h1 h2 h3 h4; simp [h0, h1, h2, h3, h4]
section
variable {H : Type} {enc : TypeId × Value → H} {W : World} {base : Nat} {sp : Nat → Bool} {held : Bool} {fuel : Nat} {cs : List Value} {x : DataW H × List MemPlace}
set_option maxRecDepth 100000 in
theorem pair_cells {a b : List UInt8} (h : DataW.trod enc Tryz.prog W base sp held fuel 255 cs = some x) (hx : x.1 = .agg [.lit (.string a), .lit (.string b)]) : cs = [.string ⟨a.toArray⟩, .string ⟨b.toArray⟩] := by
  obtain ⟨xs, n, _, hx', hl, hlen, hf⟩ := DataW.trod_struct Tryz.underlying255 h
  subst hx'
  have hx : xs.map (·.1) = [.lit (.string a), .lit (.string b)] := by injection hx
  obtain ⟨y0, hy0, e0⟩ := map_at hx (i := 0) rfl
  obtain ⟨y1, hy1, e1⟩ := map_at hx (i := 1) rfl
  have g0 : DataW.trod enc Tryz.prog W base sp held n 9 ((cs.drop 0).take (Tryz.prog.cellsOf 9)) = some y0 := (hf 0 _ rfl).trans hy0
  have g1 : DataW.trod enc Tryz.prog W base sp held n 9 ((cs.drop 1).take (Tryz.prog.cellsOf 9)) = some y1 := (hf 1 _ rfl).trans hy1
  rw [Tryz.cells9] at g0 g1
  rw [Tryz.cells255] at hl
  exact list2 hl (str_cells g0 e0) (str_cells g1 e1)
end
set_option maxRecDepth 100000 in
theorem wf_of_laid {a b c d e f : String × DataW Unit} {r : List (String × DataW Unit)} {W : World} (h : laidMet Tryz.prog (a :: b :: c :: d :: e :: f :: ("flotilla/words.forms", Rows.laid_flotilla_words_forms) :: r) W) : Wf W := by
  obtain ⟨ps, ⟨g', t', cs, fuel, p, q, hg', ht', hvar, hd, _, _⟩, _⟩ := h.tail.tail.tail.tail.tail.tail
  obtain rfl := Option.some.inj (Tryz.gWf.symm.trans hg')
  obtain rfl := Option.some.inj (Tryz.gWfType.symm.trans ht')
  obtain ⟨xs, m, _, hx, hl, hlen, hf⟩ := DataW.trod_array Tryz.und256 hd
  rw [Tryz.cells256] at hl
  rw [Tryz.cells255] at hf
  have hxs : xs.map (·.1) = wfN.map fun q => (.agg [.lit (.string q.1), .lit (.string q.2)] : DataW Unit) := by
    have := congrArg Prod.fst hx
    have e : (.agg (xs.map (·.1)) : DataW Unit) = Rows.laid_flotilla_words_forms := this.symm
    injection e
  have hcell : ∀ i, i < 9 → W.cell? ⟨5, i * 2, none⟩ = some (.string ⟨(nmN i).toArray⟩) ∧ W.cell? ⟨5, i * 2 + 1, none⟩ = some (.string ⟨(ltN i).toArray⟩) := by
    intro i hi
    have hd : (wfN.map fun q => (.agg [.lit (.string q.1), .lit (.string q.2)] : DataW Unit))[i]? = some (.agg [.lit (.string (nmN i)), .lit (.string (ltN i))]) := by
      have hlen : wfN.length = 9 := rfl
      unfold nmN ltN
      rw [List.getElem?_map, List.getD_eq_getElem?_getD, List.getElem?_eq_getElem (by omega)]
      rfl
    obtain ⟨y, hy, e⟩ := map_at hxs hd
    have c := pair_cells ((hf i hi).trans hy) e
    have c0 := congrArg (fun l => l[0]?) c
    have c1 := congrArg (fun l => l[1]?) c
    simp only [List.getElem?_take, List.getElem?_drop] at c0 c1
    rw [if_pos (by omega)] at c0 c1
    refine ⟨?_, ?_⟩
    · rw [World.var?_cell Tryz.gWf hvar (i * 2)]
      simpa using c0
    · rw [World.var?_cell Tryz.gWf hvar (i * 2 + 1)]
      simpa using c1
  exact ⟨World.block_lt_of_cell? W _ (hcell 0 (by omega)).1, hcell⟩
end Go.Proofs.YtdhkdniddjnigaaGreatDoor

namespace Go.Proofs.YtdhkdniddjnigaaGreatDoor
open Go.ChangeShapes Go.WideShapes Go.ChangeAt Go.RowKit Go.Deep Go.Joins
set_option linter.unusedVariables false

theorem bulk_lits {H : Type} (k : IntKind) (zs : List Int) : Rows.uptoBulkAll (lits (H := H) k zs) = zs.length := by
  induction zs with
  | nil => rfl
  | cons z r ih =>
    simp only [lits, List.map_cons, Rows.uptoBulkAll, Rows.uptoBulk, List.length_cons] at ih ⊢
    omega
theorem u8_wfG {n : Int} (h : (Lit.int .u8 n).wf = true) : 0 ≤ n ∧ n < 256 := by
  have : 0 ≤ n ∧ n ≤ 255 := by simpa [Lit.wf, IntKind.min, IntKind.max, IntKind.signed, IntKind.bits] using h
  omega
theorem i64_wfG {n : Int} (h : (Lit.int .i64 n).wf = true) : -9223372036854775808 ≤ n ∧ n ≤ 9223372036854775807 := by
  simpa [Lit.wf, IntKind.min, IntKind.max, IntKind.signed, IntKind.bits] using h
theorem Tryz.cellsB5 : Tryz.prog.cellsOf 5 = 1 := by kernel_rfl
theorem Tryz.cellsB3 : Tryz.prog.cellsOf 3 = 1 := by kernel_rfl

/-- Bytes that came in. -/
theorem open_bytesG {H : Type} {enc : TypeId × Value → H} {W : World} {v : Value} {d : DataW H} {p : List MemPlace} (h : DataW.Trod enc Tryz.prog W 0 (fun _ => true) true 40 v d p) (hv : ∃ a l c, v = .slice a l c) :
    ∃ a c l, v = .slice a (List.length (α := UInt8) l) c ∧ Reads W v l ∧ l.length ≤ Rows.uptoBulk d := by
  obtain ⟨fuel, hf⟩ := h
  obtain ⟨a0, l0, c0, rfl⟩ := hv
  rcases open_ints Tryz.underlying40 Tryz.underlying5 Tryz.cellsB5 hf with ⟨hcs, hx⟩ | ⟨a, len, cap, zs, hcs, _, hl, hm, hz, hx, hcell, hwz⟩
  · simp [Value.cells] at hcs
    obtain ⟨rfl, rfl, rfl⟩ := hcs
    exact ⟨_, _, [], rfl, Reads.nil _, by simp⟩
  · simp [Value.cells] at hcs
    obtain ⟨rfl, rfl, rfl⟩ := hcs
    simp only [if_true] at hz
    simp only [Prod.mk.injEq] at hx
    obtain ⟨rfl, _⟩ := hx
    have hlz : ((zs.take l0).map fun z => UInt8.ofNat z.toNat).length = l0 := by simp; omega
    refine ⟨_, c0, (zs.take l0).map fun z => UInt8.ofNat z.toNat, by rw [hlz], ?_, ?_⟩
    · by_cases h0 : l0 = 0
      · subst h0
        exact ⟨some a, c0, rfl, Nat.zero_le _, Or.inl ⟨rfl, fun e => by cases e⟩⟩
      · have hc0 := hcell 0 (by omega)
        have hsp : a.spot = none := by
          have := World.cell?_spot hc0
          simpa [Addr.add] using this
        obtain ⟨b, off, sp⟩ := a
        simp only at hsp
        subst hsp
        refine ⟨_, c0, by rw [hlz], by rw [hlz]; exact hl, Or.inr ⟨b, off, rfl, ?_, fun j u hu => ?_⟩⟩
        · have := World.block_lt_of_cell? W _ hc0
          simpa [Addr.add] using this
        · have hj : j < l0 := by
            have := (List.getElem?_eq_some_iff.1 hu).1
            rw [cellsB_length, hlz] at this
            exact this
          have hjz : j < zs.length := by omega
          have hc := hcell j hjz
          rw [Addr.add_lit] at hc
          rw [hc, ← hu]
          have hw := u8_wfG (hwz zs[j] (List.getElem_mem hjz))
          have e : ((UInt8.ofNat zs[j].toNat).toNat : Int) = zs[j] := by
            rw [UInt8.toNat_ofNat']
            omega
          simp only [cellsB, List.getElem?_map, List.getElem?_take, hj, if_true, List.getElem?_eq_getElem hjz, Option.map_some, List.getD, Option.getD_some, e]
    · rw [hlz]
      have h1 := bulk_lits (H := H) .u8 (zs.take l0)
      simp only [Rows.uptoBulk, h1, List.length_take]
      omega
/-- Whole numbers that came in. -/
theorem open_cuts {H : Type} {enc : TypeId × Value → H} {W : World} {v : Value} {d : DataW H} {p : List MemPlace} (h : DataW.Trod enc Tryz.prog W 0 (fun _ => true) true 57 v d p) (hv : ∃ a l c, v = .slice a l c) :
    ∃ a c ks, v = .slice a (List.length (α := Int) ks) c ∧ CutsAt W a ks ∧ ks.length ≤ Rows.uptoBulk d := by
  obtain ⟨fuel, hf⟩ := h
  obtain ⟨a0, l0, c0, rfl⟩ := hv
  rcases open_ints Tryz.underlying57 Tryz.underlying3 Tryz.cellsB3 hf with ⟨hcs, hx⟩ | ⟨a, len, cap, zs, hcs, _, hl, hm, hz, hx, hcell, hwz⟩
  · simp [Value.cells] at hcs
    obtain ⟨rfl, rfl, rfl⟩ := hcs
    exact ⟨_, _, [], rfl, fun k x hk => by simp at hk, by simp⟩
  · simp [Value.cells] at hcs
    obtain ⟨rfl, rfl, rfl⟩ := hcs
    simp only [if_true] at hz
    simp only [Prod.mk.injEq] at hx
    obtain ⟨rfl, _⟩ := hx
    have hlz : (zs.take l0).length = l0 := by simp; omega
    refine ⟨_, c0, zs.take l0, by rw [hlz], fun k x hk => ?_, ?_⟩
    · have hi := (List.getElem?_eq_some_iff.1 hk).1
      rw [hlz] at hi
      have hiz : k < zs.length := by omega
      have hc := hcell k hiz
      have hsp : a.spot = none := by
        have := World.cell?_spot (hcell 0 (by omega))
        simpa [Addr.add] using this
      obtain ⟨b, off, sp⟩ := a
      simp only at hsp
      subst hsp
      rw [Addr.add_lit] at hc
      have hx : zs[k] = x := by
        rw [List.getElem?_take, if_pos hi, List.getElem?_eq_getElem hiz] at hk
        exact Option.some.inj hk
      refine ⟨hx ▸ i64_wfG (hwz _ (List.getElem_mem hiz)), b, off, rfl, ?_, ?_⟩
      · have := World.block_lt_of_cell? W _ hc
        simpa using this
      · rw [hc]
        simp [List.getD, hiz, hx]
    · rw [hlz]
      have h1 := bulk_lits (H := H) .i64 (zs.take l0)
      simp only [Rows.uptoBulk, h1, List.length_take]
      omega
theorem max_of_shape {W : World} (h : W.ShapedOpen Tryz.prog) : ∃ m, W.cell? ⟨0, 0, none⟩ = some (.int .i64 m) :=
  cell_of_shapedOpen_int (t := 3) (zero := #[.int .i64 0]) h (by decide +kernel) (by kernel_rfl) rfl (by kernel_rfl) (by kernel_rfl) Tryz.underlying3
theorem evs_of_laid {W : World} (h : laidMet Tryz.prog Rows.gateCutsUptoRow.laid W) (hs : W.ShapedOpen Tryz.prog) : Evs [inC W] := by
  obtain ⟨m, hm⟩ := max_of_shape hs
  have hT := tab_of_laid h
  have hb : ∀ W', All [inC W] W' → Below W.heap.size W W' := fun W' k => k.into (by simp)
  exact ⟨fun W' k => (vars_of_laid h).later (hb W' k), fun W' k => hT.below (hb W' k), fun W' k => (wf_of_laid h).later (hb W' k), fun W' k => ⟨m, cell_under (hb W' k) (by have := World.block_lt_of_cell? W _ hm; simpa using this) hm⟩, W, by simp, hT⟩
end Go.Proofs.YtdhkdniddjnigaaGreatDoor
