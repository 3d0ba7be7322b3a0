import Derived.Test.YthnccpbgccmapabDoorStep
namespace Go.Proofs.YthnccpbgccmapabDoor
open Go.RowKit
set_option linter.unusedVariables false
attribute [local go_sem ↓] Go.wp_at_zero Go.wp_at_succ

/-- A stream that was fed more than its book says yet; a list of the caller's beside it. -/
def Fx (P D S X : Nat) (fed b : List UInt8) (told : Nat) (es : List En) (cs : List Comp) (fv ov wv bv av : Value) (l : List UInt8) (sec : Bool) (w : World) : Prop :=
  Str P (fin (fed ++ b)).2.2 ((fin (fed ++ b)).1.drop told) (fin (fed ++ b)).2.1 (rowC av l :: (bsL D S fv ov wv fed told es ++ (opC X sec 0 bv :: cs))) w

theorem Fx.later {P D S X : Nat} {fed b : List UInt8} {told : Nat} {es : List En} {cs : List Comp} {fv ov wv bv av : Value} {l : List UInt8} {sec : Bool} {w w' : World} (h : Fx P D S X fed b told es cs fv ov wv bv av l sec w) (hb : Below w.heap.size w w') : Fx P D S X fed b told es cs fv ov wv bv av l sec w' := Str.later h hb

theorem Fx.set {P D S X : Nat} {fed b : List UInt8} {told : Nat} {es : List En} {cs : List Comp} {fv ov wv bv : Value} {l : List UInt8} {sec : Bool} {w : World} {g n cap k : Nat} (h : Fx P D S X fed b told es cs fv ov wv bv (.slice (some ⟨g, 0, none⟩) n cap) l sec w) (hn : n = l.length) (x : UInt8) : Fx P D S X fed b told es cs fv ov wv bv (.slice (some ⟨g, 0, none⟩) n cap) (l.set k x) sec (w.setCell ⟨g, k, none⟩ (.int .u8 (x.toNat : Int))) := by
  obtain ⟨v, hv, hA⟩ := h
  exact ⟨v, hv, ((hA.perm List.perm_middle).row_set (k := k) x hn).perm List.perm_middle.symm⟩

theorem Fx.facts {P D S X : Nat} {fed b : List UInt8} {told : Nat} {es : List En} {cs : List Comp} {fv ov wv bv av : Value} {l : List UInt8} {sec : Bool} {w : World} (h : Fx P D S X fed b told es cs fv ov wv bv av l sec w) : w.ownsRow 0 5 1 av l.length (cellsB l) ∧ w.ownsRow 0 5 1 fv fed.length (cellsB fed) ∧ w.heap[D]? = some (.cells #[fv, .int .i64 (told : Int)] 28 (0, 0)) ∧ w.heap[X]? = some (.cells #[.bool sec, .int .i64 0, bv] 33 (0, 0)) :=
  ⟨Str.mem h (c := rowC av l) (by simp), Str.mem h (c := rowC fv fed) (by simp [bsL]), Str.mem h (c := bookC D fv told) (by simp [bsL]), Str.mem h (c := opC X sec 0 bv) (by simp)⟩

/-- The book has grown. -/
theorem Fx.grew {P D S X : Nat} {fed b : List UInt8} {told : Nat} {es : List En} {cs : List Comp} {fv fv' ov wv bv av : Value} {l : List UInt8} {sec : Bool} {w w' : World} (h : Fx P D S X fed b told es cs fv ov wv bv av l sec w) (ho : w'.ownsRow 0 5 1 fv' (fed ++ b).length (cellsB (fed ++ b))) (hg : w.grownBy w' fv.ownBlock) (hat : fv'.ownBlock = fv.ownBlock ∨ fv'.ownBlock = some w.heap.size) : Str P (fin (fed ++ b)).2.2 ((fin (fed ++ b)).1.drop told) (fin (fed ++ b)).2.1 (bookC D fv told :: (rowC fv' (fed ++ b) :: (shelfL S ov wv es ++ cs))) w' := by
  have h1 : Str P (fin (fed ++ b)).2.2 ((fin (fed ++ b)).1.drop told) (fin (fed ++ b)).2.1 ((bsL D S fv ov wv fed told es ++ [opC X sec 0 bv]) ++ cs) w := by
    have := Str.drop h
    simpa using this
  obtain ⟨v, hv, hA⟩ := h1
  refine ⟨v, hv, ?_⟩
  have h2 : All ((strC P (fin (fed ++ b)).2.2 ((fin (fed ++ b)).1.drop told) (fin (fed ++ b)).2.1 v ++ (bsL D S fv ov wv fed told es)) ++ (opC X sec 0 bv :: cs)) w := by
    have := hA
    simpa [List.append_assoc] using this
  have h3 := All.mid h2
  rw [List.append_assoc] at h3
  have h4 : All ((strC P (fin (fed ++ b)).2.2 ((fin (fed ++ b)).1.drop told) (fin (fed ++ b)).2.1 v ++ [bookC D fv told]) ++ (rowC fv fed :: (shelfL S ov wv es ++ cs))) w := by
    rw [List.append_assoc]; exact h3
  have h5 := ((h4.perm List.perm_middle).row_grow ho hg hat).perm List.perm_middle.symm
  rw [List.append_assoc] at h5
  exact h5

theorem Nx.lent {P D S : Nat} {fed : List UInt8} {told : Nat} {es : List En} {tg : Bool} {cs : List Comp} {fv ov wv v2 : Value} {l : List UInt8} {w w' : World} (h : Nx P D S fed told es tg cs fv ov wv w) (hb : Below w.heap.size w w') (ho : w'.ownsRow w.heap.size 5 1 v2 l.length (cellsB l)) : Str P (fin fed).2.2 ((fin fed).1.drop told) (fin fed).2.1 (rowC v2 l :: (bsL D S fv ov wv fed told es ++ cs)) w' := by
  obtain ⟨v, hv, hA⟩ := h.str
  exact ⟨v, hv, (hA.addRow hb ho).perm List.perm_middle.symm⟩

theorem fed_more {P D S : Nat} {fed b : List UInt8} {told : Nat} {es : List En} {cs : List Comp} {fv fv' ov wv : Value} {w : World} (h : Str P (fin (fed ++ b)).2.2 ((fin (fed ++ b)).1.drop told) (fin (fed ++ b)).2.1 (bookC D fv told :: (rowC fv' (fed ++ b) :: (shelfL S ov wv es ++ cs))) w) (hle : told ≤ (fin fed).1.length) (hbl : fed.length + b.length ≤ 1048576) (hsh : ShOk true es) : Nx P D S (fed ++ b) told es true cs fv' ov wv (w.setCell ⟨D, 0, none⟩ fv') := by
  obtain ⟨v6, hv6, hA6⟩ := h
  refine ⟨⟨v6, hv6, ?_⟩, ?_, by simpa using hbl, hsh⟩
  · exact ((hA6.perm List.perm_middle).book_set0 _).perm List.perm_middle.symm
  · rw [fin_append]; simp; omega

theorem bd1 (w : World) : Below w.heap.size w w.drew := ⟨rfl, rfl, rfl, Nat.le_refl _, fun _ _ => rfl⟩

set_option maxHeartbeats 6400000 in
set_option maxRecDepth 1000000 in
theorem step_feed {P D S : Nat} {fed b : List UInt8} {told : Nat} {es : List En} {cs : List Comp} {fv ov wv bv : Value} {sec : Bool} {w w0 : World} (h : Nx P D S fed told es true cs fv ov wv w) (hin : inC w0 ∈ cs) (hT : Tab w0) (hb : Reads w0 bv b) (hbl : fed.length + b.length ≤ 1048576) :
    Calls Tryd.prog 8 #[.pointer (some ⟨P, 0, none⟩), .pointer (some ⟨D, 0, none⟩), .pointer (some ⟨S, 0, none⟩), .agg #[.bool sec, .int .i64 0, bv]] w (StepR P D S fed b es cs) := by
  obtain ⟨ba0, bc0, hbe⟩ := hb.form
  subst hbe
  have HB0 := hid hb
  have HIN := hid hin
  have HT0 := hid hT
  have N1 := hid (h.box sec 0 (.slice ba0 b.length bc0))
  have hX := N1.out.op
  have x1 : (w.alloc (.cells #[.bool sec, .int .i64 0, .slice ba0 b.length bc0] 33)).cell? ⟨w.heap.size, 1, none⟩ = some (.int .i64 0) := by rw [cell_at hX]; rfl
  have x2 : (w.alloc (.cells #[.bool sec, .int .i64 0, .slice ba0 b.length bc0] 33)).cell? ⟨w.heap.size, 2, none⟩ = some (.slice ba0 b.length bc0) := by rw [cell_at hX]; rfl
  have HL := hid (lent_any (HB0.out.under (N1.out.str.into (w0 := w0) (by simp [hin]))) (by omega))
  have hfr := fin_rest_le fed
  have hfl := fin_append fed b
  clear h hX hb hin hT
  go_enter Tryd.func8, Tryd.ntmps8
  go_wp2_with fail
  refine HL.out.mono ?_
  rintro e w2 ⟨v2, rfl, hown2, hb2⟩
  have S2 := hid (N1.out.lent hb2 hown2)
  have hr2 : w2.ownsRow 0 5 1 v2 (behind b 8).length (cellsB (behind b 8)) := Str.mem S2.out (c := rowC v2 (behind b 8)) (by simp)
  obtain ⟨g, cap, hv2, hcap, _, _⟩ := owns_some hr2 (by rw [behind_len]; omega)
  rw [behind_len] at hv2 hcap
  subst hv2
  have RA := hid (show Reads w2 (.slice (some ⟨g, 0, none⟩) b.length cap) b from by
    have h1 := (Reads.of_owns hr2)
    have h2 := h1.sub 0 b.length cap (by rw [behind_len]; omega) (by omega)
    have e : ((behind b 8).drop 0).take b.length = b := by simp [behind]
    rw [e] at h2
    exact h2)
  have hX2 : w2.heap[w.heap.size]? = some (.cells #[.bool sec, .int .i64 0, .slice ba0 b.length bc0] 33 (0, 0)) := Str.mem S2.out (c := opC w.heap.size sec 0 (.slice ba0 b.length bc0)) (by simp)
  have y2 : w2.cell? ⟨w.heap.size, 2, none⟩ = some (.slice ba0 b.length bc0) := by rw [cell_at hX2]; rfl
  have hc0 : ¬ cap = 0 := by omega
  have HFE := hid (Str.feed S2.out (w0 := w0) (by simp [HIN.out]) HT0.out RA.out (by omega) (by simp; omega) (by omega))
  have HLE := hid N1.out.le
  have HSH := hid N1.out.sh
  clear x1 x2 hown2 hb2 hr2 hX2 HL S2 N1 RA
  go_wp2_with fail
  refine HFE.out.mono ?_
  rintro e w3 ⟨rfl, hs3⟩
  have F3 : Hid (Fx P D S w.heap.size fed b told es cs fv ov wv (.slice ba0 b.length bc0) (.slice (some ⟨g, 0, none⟩) (b.length + 8) cap) (behind b 8) sec w3) := by
    unfold Fx Hid
    rw [hfl]
    simp only []
    rw [List.drop_append_of_le_length HLE.out]
    exact hs3
  have HFL := hid hfl
  clear hs3 HFE y2 hfl
  obtain ⟨r1, r2, r3, r4⟩ := F3.out.facts
  have z2 : w3.cell? ⟨w.heap.size, 2, none⟩ = some (.slice ba0 b.length bc0) := by rw [cell_at r4]; rfl
  have RA3 := hid (Reads.of_owns r1)
  have RB3 := hid (HB0.out.under (F3.out.into (w0 := w0) (by simp [HIN.out])))
  clear r1 r2 r3 r4
  go_wp2_with fail
  refine (still_any RA3.out RB3.out (by omega)).mono ?_
  rintro e w4 ⟨rfl, q4, hq4⟩
  have F4 := hid (show Fx P D S w.heap.size fed b told es cs fv ov wv (.slice ba0 b.length bc0) (.slice (some ⟨g, 0, none⟩) (b.length + 8) cap) (behind b 8) sec w4 from hq4 ▸ F3.out.later (bdN _ q4))
  clear hq4 F3 RA3 RB3 z2
  go_wp2
  go_loopw [10] (fun iv wr => ∃ (i : Nat) (l : List UInt8), i ≤ b.length + 8 ∧ iv = .int .i64 (i : Int) ∧ Hid (l.length = b.length + 8 ∧ Fx P D S w.heap.size fed b told es cs fv ov wv (.slice ba0 b.length bc0) (.slice (some ⟨g, 0, none⟩) (b.length + 8) cap) l sec wr)) (fun iv _ => b.length + 8 - (intOf iv).toNat)
  case atStart => exact ⟨0, behind b 8, by omega, rfl, by rw [behind_len], F4.out⟩
  case round =>
    obtain ⟨i, l, hi, rfl, FR⟩ := hrel
    clear F4
    by_cases hlt : i < b.length + 8
    · obtain ⟨r1, _, _, _⟩ := FR.out.2.facts
      have hc := (Reads.of_owns r1).at_u8 i (by rw [FR.out.1]; exact hlt)
      obtain ⟨g', o', eg, hcc⟩ := hc
      simp only [Option.some.injEq, Addr.mk.injEq, and_true] at eg
      obtain ⟨eg1, eg2⟩ := eg
      subst eg1
      subst eg2
      rw [Nat.zero_add] at hcc
      have hfz : wr.frozen? ⟨g, i, none⟩ = false := by
        rcases r1.2 with ⟨e, _⟩ | ⟨g2, c2, cur, e, _, hg2, _⟩
        · cases e
        · simp only [Value.slice.injEq, Option.some.injEq, Addr.mk.injEq] at e
          obtain ⟨⟨rfl, _⟩, _⟩ := e
          exact free_at hg2 i
      have F5 := hid (FR.out.2.set (k := i) FR.out.1.symm 76)
      have HLL := hid FR.out.1
      generalize (l.getD i 0).toNat = cn at *
      clear r1 FR
      go_wp2
      go_roundw
      case rel => exact ⟨i + 1, l.set i 76, by omega, by go_num, by rw [List.length_set]; exact HLL.out, F5.out⟩
      case measure => simp [intOf]; omega
    · have F5 := hid (FR.out.2.later (bd1 _))
      obtain ⟨_, r2, r3, r4⟩ := FR.out.2.facts
      obtain ⟨fa, fc, hfe⟩ := owns_form r2
      subst hfe
      have d0 : wr.cell? ⟨D, 0, none⟩ = some (.slice fa fed.length fc) := by rw [cell_at r3]; rfl
      have f0 : wr.frozen? ⟨D, 0, none⟩ = false := free_at r3 0
      have z2 : wr.cell? ⟨w.heap.size, 2, none⟩ = some (.slice ba0 b.length bc0) := by rw [cell_at r4]; rfl
      have ho5 : wr.drew.ownsRow 0 5 1 (.slice fa fed.length fc) fed.length (cellsB fed) := F5.out.facts.2.1
      have RB5 := hid (HB0.out.under (Str.into F5.out (w0 := w0) (by simp [HIN.out])))
      clear r2 r3 r4 FR
      go_wp2_with fail
      go_region_law (first | (refine step_append_bytes (by rfl) (.tmp 52) (.tmp 54) (by rfl) (.slice fa fed.length fc) fed b (.slice ba0 b.length bc0) (by rfl) (by rfl) ho5 RB5.out hbl ?_; intro ao6 cap6 w6 hown6 hgr6 hat6; have S6 := hid (F5.out.grew hown6 hgr6 hat6); have hbk6 : w6.heap[D]? = some (.cells #[.slice fa fed.length fc, .int .i64 (told : Int)] 28 (0, 0)) := S6.out.mem (c := bookC D (.slice fa fed.length fc) told) (by simp); have d6 : w6.cell? ⟨D, 0, none⟩ = some (.slice fa fed.length fc) := (cell_at hbk6 0); have f6 : w6.frozen? ⟨D, 0, none⟩ = false := free_at hbk6 0; clear hown6 hgr6 hat6 hbk6))
      all_goals have A7 := hid (fed_more S6.out HLE.out hbl HSH.out)
      all_goals rw [List.length_append] at A7
      all_goals go_wp2
      all_goals go_ret
      all_goals exact ⟨rfl, fed ++ b, told, es, _, ov, wv, by simp, by omega, A7.out⟩
end Go.Proofs.YthnccpbgccmapabDoor
