import Derived.Test.YthnccpbgccmapabDoorStepF
namespace Go.Proofs.YthnccpbgccmapabDoor
open Go.RowKit
set_option linter.unusedVariables false

/-- A step that came in. -/
structure OpS where
  sec : Bool
  kind : Int
  bv : Value
  b : List UInt8

/-- A script that came in. -/
def OpsAt (w : World) (v : Value) (xs : List OpS) : Prop := ∃ ao c, v = .slice ao xs.length c ∧ (xs = [] ∨ ∃ g o, ao = some ⟨g, o, none⟩ ∧ g < w.heap.size ∧ ∀ (i : Nat) x, xs[i]? = some x → w.cell? ⟨g, o + i * 3, none⟩ = some (.bool x.sec) ∧ w.cell? ⟨g, o + i * 3 + 1, none⟩ = some (.int .i64 x.kind) ∧ w.cell? ⟨g, o + i * 3 + 2, none⟩ = some x.bv ∧ Reads w x.bv x.b)

theorem OpsAt.form {w : World} {v : Value} {xs : List OpS} (h : OpsAt w v xs) : ∃ ao c, v = .slice ao xs.length c := by
  obtain ⟨ao, c, rfl, _⟩ := h
  exact ⟨ao, c, rfl⟩

theorem OpsAt.at {w w' : World} {ao : Option Addr} {n c : Nat} {xs : List OpS} (h : OpsAt w (.slice ao n c) xs) (hb : Below w.heap.size w w') {i : Nat} {x : OpS} (hi : xs[i]? = some x) : ∃ g o, ao = some ⟨g, o, none⟩ ∧ w'.cell? ⟨g, o + i * 3, none⟩ = some (.bool x.sec) ∧ w'.cell? ⟨g, o + i * 3 + 1, none⟩ = some (.int .i64 x.kind) ∧ w'.cell? ⟨g, o + i * 3 + 2, none⟩ = some x.bv ∧ Reads w x.bv x.b := by
  obtain ⟨ao', c', e, hcase⟩ := h
  simp only [Value.slice.injEq] at e
  obtain ⟨rfl, rfl, rfl⟩ := e
  rcases hcase with rfl | ⟨g, o, rfl, hg, hc⟩
  · simp at hi
  · obtain ⟨h1, h2, h3, h4⟩ := hc i x hi
    exact ⟨g, o, rfl, cell_under hb hg h1, cell_under hb hg h2, cell_under hb hg h3, h4⟩

/-- The other stream's parts. -/
def othL (P D : Nat) (fed : List UInt8) (told : Nat) (v : Sv) (fv : Value) : List Comp := strC P (fin fed).2.2 ((fin fed).1.drop told) (fin fed).2.1 v ++ [bookC D fv told, rowC fv fed]

/-- Two streams, their books, one shelf. -/
structure T2 (P1 D1 P2 D2 S : Nat) (f1 : List UInt8) (t1 : Nat) (f2 : List UInt8) (t2 : Nat) (es : List En) (tg : Bool) (w0 : World) (v2 : Sv) (fv1 fv2 ov wv : Value) (w : World) : Prop where
  nx : Nx P1 D1 S f1 t1 es tg (othL P2 D2 f2 t2 v2 fv2 ++ [inC w0]) fv1 ov wv w
  sv : SvOk (fin f2).2.2 ((fin f2).1.drop t2) v2
  le : t2 ≤ (fin f2).1.length
  len : f2.length ≤ 1048576

def T2x (P1 D1 P2 D2 S : Nat) (f1 : List UInt8) (t1 : Nat) (f2 : List UInt8) (t2 : Nat) (es : List En) (tg : Bool) (w0 w : World) : Prop := ∃ v2 fv1 fv2 ov wv, T2 P1 D1 P2 D2 S f1 t1 f2 t2 es tg w0 v2 fv1 fv2 ov wv w

theorem T2x.swap {P1 D1 P2 D2 S : Nat} {f1 : List UInt8} {t1 : Nat} {f2 : List UInt8} {t2 : Nat} {es : List En} {tg : Bool} {w0 w : World} (h : T2x P1 D1 P2 D2 S f1 t1 f2 t2 es tg w0 w) : T2x P2 D2 P1 D1 S f2 t2 f1 t1 es tg w0 w := by
  obtain ⟨v2, fv1, fv2, ov, wv, h⟩ := h
  obtain ⟨v1, hv1, hA⟩ := h.nx.str
  refine ⟨v1, fv2, fv1, ov, wv, ⟨⟨v2, h.sv, ?_⟩, h.le, h.len, h.nx.sh⟩, hv1, h.nx.le, h.nx.len⟩
  have e1 : strC P1 (fin f1).2.2 ((fin f1).1.drop t1) (fin f1).2.1 v1 ++ (bsL D1 S fv1 ov wv f1 t1 es ++ (othL P2 D2 f2 t2 v2 fv2 ++ [inC w0])) = othL P1 D1 f1 t1 v1 fv1 ++ (shelfL S ov wv es ++ (othL P2 D2 f2 t2 v2 fv2 ++ [inC w0])) := by simp [othL, bsL]
  have e2 : strC P2 (fin f2).2.2 ((fin f2).1.drop t2) (fin f2).2.1 v2 ++ (bsL D2 S fv2 ov wv f2 t2 es ++ (othL P1 D1 f1 t1 v1 fv1 ++ [inC w0])) = othL P2 D2 f2 t2 v2 fv2 ++ (shelfL S ov wv es ++ (othL P1 D1 f1 t1 v1 fv1 ++ [inC w0])) := by simp [othL, bsL]
  rw [e2]
  rw [e1] at hA
  exact hA.perm (front2.trans ((List.Perm.append_left _ front2).trans front2))

theorem T2x.into {P1 D1 P2 D2 S : Nat} {f1 : List UInt8} {t1 : Nat} {f2 : List UInt8} {t2 : Nat} {es : List En} {tg : Bool} {w0 w : World} (h : T2x P1 D1 P2 D2 S f1 t1 f2 t2 es tg w0 w) : Below w0.heap.size w0 w := by
  obtain ⟨v2, fv1, fv2, ov, wv, h⟩ := h
  exact h.nx.str.into (by simp)

theorem T2x.drewN {P1 D1 P2 D2 S : Nat} {f1 : List UInt8} {t1 : Nat} {f2 : List UInt8} {t2 : Nat} {es : List En} {tg : Bool} {w0 w : World} (h : T2x P1 D1 P2 D2 S f1 t1 f2 t2 es tg w0 w) (q : Nat) : T2x P1 D1 P2 D2 S f1 t1 f2 t2 es tg w0 (w.drewN q) := by
  obtain ⟨v2, fv1, fv2, ov, wv, h⟩ := h
  exact ⟨v2, fv1, fv2, ov, wv, ⟨h.nx.str.drewN q, h.nx.le, h.nx.len, h.nx.sh⟩, h.sv, h.le, h.len⟩

/-- One step at the first stream. -/
theorem T2x.step {P1 D1 P2 D2 S : Nat} {f1 : List UInt8} {t1 : Nat} {f2 : List UInt8} {t2 : Nat} {es : List En} {w0 w : World} (h : T2x P1 D1 P2 D2 S f1 t1 f2 t2 es true w0 w) (hT : Tab w0) (x : OpS) (hr : Reads w0 x.bv x.b) (hl : f1.length + x.b.length ≤ 1048576) (hs : es.length < 8388608) :
    Calls Tryd.prog 8 #[.pointer (some ⟨P1, 0, none⟩), .pointer (some ⟨D1, 0, none⟩), .pointer (some ⟨S, 0, none⟩), .agg #[.bool x.sec, .int .i64 x.kind, x.bv]] w fun e w' => e = .returned (.bool true) ∧ ∃ f1' t1' es', f1'.length ≤ f1.length + x.b.length ∧ es'.length ≤ es.length + 1 ∧ T2x P1 D1 P2 D2 S f1' t1' f2 t2 es' true w0 w' := by
  obtain ⟨v2, fv1, fv2, ov, wv, h⟩ := h
  have key : Calls Tryd.prog 8 #[.pointer (some ⟨P1, 0, none⟩), .pointer (some ⟨D1, 0, none⟩), .pointer (some ⟨S, 0, none⟩), .agg #[.bool x.sec, .int .i64 x.kind, x.bv]] w (StepR P1 D1 S f1 x.b es (othL P2 D2 f2 t2 v2 fv2 ++ [inC w0])) := by
    by_cases h0 : x.kind = 0
    · rw [h0]; exact step_feed h.nx (by simp) hT hr hl
    · by_cases h4 : x.kind = 4
      · rw [h4]; exact step_spoil h.nx
      · exact step_ask h.nx hs h0 h4
  refine key.mono ?_
  rintro e w' ⟨he, f', t', es', fv', ov', wv', h1, h2, h3⟩
  exact ⟨he, f', t', es', h1, h2, v2, fv', fv2, ov', wv', h3, h.sv, h.le, h.len⟩

theorem T2x.holds {P1 D1 P2 D2 S : Nat} {f1 : List UInt8} {t1 : Nat} {f2 : List UInt8} {t2 : Nat} {es : List En} {tg : Bool} {w0 w : World} (h : T2x P1 D1 P2 D2 S f1 t1 f2 t2 es tg w0 w) : Calls Tryd.prog 9 #[.pointer (some ⟨S, 0, none⟩)] w fun e w' => e = .returned (.bool true) ∧ ∃ q, w' = w.drewN q := by
  obtain ⟨v2, fv1, fv2, ov, wv, h⟩ := h
  obtain ⟨v, hv, hsp⟩ := h.nx.shelf
  exact holds_any hsp.box hsp.reads (by have := h.nx.sh.small; omega)

theorem T2x.spoilT {P1 D1 P2 D2 S : Nat} {f1 : List UInt8} {t1 : Nat} {f2 : List UInt8} {t2 : Nat} {es : List En} {w0 w : World} (h : T2x P1 D1 P2 D2 S f1 t1 f2 t2 es true w0 w) (hs : es.length ≤ 1048576) : Calls Tryd.prog 10 #[.pointer (some ⟨S, 0, none⟩)] w fun e w' => e = .returned (.bool true) ∧ ∃ es', es'.length = 2 * es.length ∧ T2x P1 D1 P2 D2 S f1 t1 f2 t2 es' false w0 w' := by
  obtain ⟨v2, fv1, fv2, ov, wv, h⟩ := h
  obtain ⟨v, hv, hsp⟩ := h.nx.shelf
  refine (spoil_tight hsp (fun x hx => ?_) hs).mono ?_
  · obtain ⟨e, he, rfl⟩ := List.mem_map.1 hx
    exact h.nx.sh.tight rfl e he
  · rintro e w' ⟨he, ov', wv', es', hl, hA, hb⟩
    refine ⟨he, es', hl, v2, fv1, fv2, ov', wv', Nx.ofShelf hv ?_ h.nx.le h.nx.len ⟨fun x hx => ⟨(hA.ok x hx).1, hb x hx⟩, fun e => (by cases e), by omega⟩, h.sv, h.le, h.len⟩
    have := hA.all
    exact this

theorem T2x.last {P1 D1 P2 D2 S : Nat} {f1 : List UInt8} {t1 : Nat} {f2 : List UInt8} {t2 : Nat} {es : List En} {tg : Bool} {w0 w : World} (h : T2x P1 D1 P2 D2 S f1 t1 f2 t2 es tg w0 w) (hs : es.length ≤ 6291456) : Calls Tryd.prog 11 #[.pointer (some ⟨P1, 0, none⟩), .pointer (some ⟨D1, 0, none⟩), .pointer (some ⟨S, 0, none⟩)] w fun e w' => e = .returned (.bool true) ∧ ∃ t1' es', es'.length ≤ es.length + 1048576 ∧ T2x P1 D1 P2 D2 S f1 t1' f2 t2 es' tg w0 w' := by
  obtain ⟨v2, fv1, fv2, ov, wv, h⟩ := h
  refine (last_any h.nx hs).mono ?_
  rintro e w' ⟨he, t', es', ov', wv', h1, h2⟩
  exact ⟨he, t', es', h1, v2, fv1, fv2, ov', wv', h2, h.sv, h.le, h.len⟩

theorem T2x.spoilE {P1 D1 P2 D2 S : Nat} {f1 : List UInt8} {t1 : Nat} {f2 : List UInt8} {t2 : Nat} {es : List En} {tg : Bool} {w0 w : World} (h : T2x P1 D1 P2 D2 S f1 t1 f2 t2 es tg w0 w) : Calls Tryd.prog 10 #[.pointer (some ⟨S, 0, none⟩)] w fun e w' => e = .returned (.bool true) ∧ Below w0.heap.size w0 w' := by
  obtain ⟨v2, fv1, fv2, ov, wv, h⟩ := h
  obtain ⟨v, hv, hsp⟩ := h.nx.shelf
  refine (spoil_any hsp (by have := h.nx.sh.small; omega)).mono ?_
  rintro e w' ⟨he, ov', wv', es', hl, hE⟩
  exact ⟨he, (hE.all.mem (c := inC w0) (by simp)).2.1⟩

/-- How many bytes are still to come. -/
def remO (xs : List OpS) (i : Nat) : Nat := ((xs.drop i).map fun x => x.b.length).sum
theorem remO_at {xs : List OpS} {i : Nat} {x : OpS} (h : xs[i]? = some x) : remO xs i = x.b.length + remO xs (i + 1) := by
  obtain ⟨hi, e⟩ := List.getElem?_eq_some_iff.1 h
  unfold remO
  rw [List.drop_eq_getElem_cons hi, e]
  simp
end Go.Proofs.YthnccpbgccmapabDoor
