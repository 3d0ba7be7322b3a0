import Derived.Test.YthjoppgomopkfaaFrom
import Derived.RangeFuncBox
import Derived.RangeFuncLeaves
import Derived.RangeFuncCalls
import Derived.RangeFuncNested
import Derived.Shelf.Abstract
import Derived.Shelf.RegionOpen
import Derived.OwnWalkIn
import Derived.TacticsInMore
import Derived.LoopNIn
import Derived.LoopIn
namespace Go.Proofs.Ythjoppgomopkfaa
open Go.RowKit Go.Shelf
attribute [local go_sem] Oper.semAt_some
set_option linter.unusedVariables false

theorem many_dr {w : World} {g b o h n : Nat} (hd : HeadAt w g b o h n) (hbo : b ≤ o) (ho : o ≤ 1099511627776) : Calls Try.prog 38 #[.pointer (some ⟨g, 0, none⟩)] w fun e w' => e = .returned (.int .i64 ((o - b : Nat) : Int)) ∧ ∃ q, w' = w.drewN q := by
  have c0 := hd.c0
  have c1 := hd.c1
  clear hd
  go_enter Try.func38, Try.ntmps38
  go_upto_region 1 with fail
  go_quiet (fail)
  go_wp2
  go_ret
  exact ⟨by go_num, _, rfl⟩

/-- The entries, each with its op. -/
def items : Nat → List Ent → List (Nat × Ent)
  | _, [] => []
  | b, e :: t => (b + 1, e) :: items (b + 1) t
theorem items_len : ∀ (b : Nat) (l : List Ent), (items b l).length = l.length
  | _, [] => rfl
  | b, e :: t => by simp [items, items_len (b + 1) t]
theorem items_at : ∀ (b : Nat) (l : List Ent) (k : Nat) (e : Ent), l[k]? = some e → (items b l)[k]? = some (b + 1 + k, e)
  | _, [], _, _, h => by simp at h
  | b, x :: t, 0, e, h => by simp at h; simp [items, h]
  | b, x :: t, k + 1, e, h => by
    have := items_at (b + 1) t k e (by simpa using h)
    simp only [items, List.getElem?_cons_succ, this]
    congr 2
    omega
theorem items_take {b : Nat} {l : List Ent} {k : Nat} {e : Ent} (h : l[k]? = some e) : (items b l).take (k + 1) = (items b l).take k ++ [(b + 1 + k, e)] := by
  rw [List.take_add_one, items_at b l k e h]
  rfl

/-- What a round is told of what it is handed. -/
structure FreshI (H0 b : Nat) (L : List Ent) (pre : List (Nat × Ent)) (x : Nat × Ent) (W0 W1 : World) : Prop where
  below : Below W0.heap.size W0 W1
  next : pre ++ [x] <+: items b L
  list : W1.heap[H0]? = some (.cells (flatE L).toArray 39 (0, 0))
  first : pre = [] → W0.heap.size ≤ H0

set_option maxHeartbeats 1600000 in
set_option maxRecDepth 1000000 in
theorem all40 {l m g h b n Bb : Nat} {L ps : List Ent} {W : World} (J Jx : List (Nat × Ent) → World → Prop) (Kp : World → World → Prop) (hKp : ∀ A B cs, A.heap[W.heap.size + 1]? = some (.cells cs 39 (0, 0)) → Kp A B → B.heap[W.heap.size + 1]? = some (.cells cs 39 (0, 0)))
    (hBb : W.cell? ⟨Bb, 0, none⟩ = some (.pointer (some ⟨g, 0, none⟩))) (hd : HeadAt W g b (b + L.length) h n) (hr : W.heap[h]? = some (.cells (flatE ps).toArray 39 (0, 0))) (hk : LogOk b n L ps)
    (hJ : ∀ pre A B, J pre A → Below A.heap.size A B → J pre B)
    (hY : ∀ pre x W0 W1, J pre W0 → FreshI (W.heap.size + 1) b L pre x W0 W1 → pre.length < 64 → YieldAt Fence.wide m Try.prog l #[.int .i64 (x.1 : Int), x.2.V] W1 fun e W' => (e = .returned (.bool true) ∧ J (pre ++ [x]) W' ∧ Kp W1 W') ∨ (e = .returned (.bool false) ∧ Jx (pre ++ [x]) W'))
    (h0 : J [] W) :
    CallsIn Fence.wide (m + 1) Try.prog 40 #[.func (.yield l) #[] #[], .pointer (some ⟨Bb, 0, none⟩)] W fun e W' => (∃ v, e = .returned v) ∧ ((∃ ys, ys = items b L ∧ J ys W') ∨ (∃ pre, pre <+: items b L ∧ Jx pre W')) := by
  have c0 := hd.c0
  have c1 := hd.c1
  have ht := hk.top
  have hf := hk.few
  have hn := hk.le
  have HM := hid (fun W' (hb : Below W.heap.size W W') => many_dr (hd.later hb) (by omega) ht)
  have hdl : b + L.length - b = L.length := by omega
  rw [hdl] at HM
  have HF := hid (fun W' (hb : Below W.heap.size W W') => From_any (hd.later hb) ((hb.block h (Array.getElem?_eq_some_iff.1 hr).1).trans hr) hk ((b : Int) + 1) (L.length : Int) (by omega))
  have hBl : Bb < W.heap.size := World.block_lt_of_cell? _ _ hBb
  have HY := hid hY
  have HJ := hid hJ
  have H0 := hid h0
  have HK := hid hKp
  clear hd hr hk hY hJ h0 hdl hKp
  refine callsIn_of_wp Try.func40 rfl trivial ?_ rfl
  simp only [Try.ntmps40, List.size_toArray, List.length_cons, List.length_nil, Nat.reduceAdd, Nat.reduceSub, Array.replicate_succ, Array.replicate_zero, List.push_toArray, List.append_toArray, List.nil_append, List.cons_append]
  have EFL : Hid (fromL b L ((b : Int) + 1) (L.length : Int) = L) := hid (by
    unfold fromL
    by_cases hz : L.length = 0
    · rw [if_neg (by omega)]
      exact (List.length_eq_zero_iff.1 hz).symm
    · rw [if_pos (by omega), show ((b : Int) + 1).toNat - b - 1 = 0 by omega, List.drop_zero, Int.toNat_natCast, List.take_of_length_le (Nat.le_refl _)])
  rw [EFL.out] at HF
  have VF : Hid (∀ A B v, A.heap.size = W.heap.size → NewEnts A B v L → ∃ av cv, v = .slice av L.length cv ∧ (0 < L.length → av = some ⟨W.heap.size + 1, 0, none⟩ ∧ B.heap[W.heap.size + 1]? = some (.cells (flatE L).toArray 39 (0, 0)))) := hid (fun A B v hs hv => by
    rcases hv with ⟨rfl, rfl⟩ | ⟨H, rfl, rfl, h2⟩
    · exact ⟨none, 0, rfl, fun h => by simp at h⟩
    · rw [hs] at h2
      exact ⟨_, _, rfl, fun _ => ⟨by rw [hs], h2⟩⟩)
  gi_wp2
  refine wpIn_wide.2 ?_
  clear c0 c1
  go_region_held3 (fun W' => W'.cell? ⟨Bb, 0, none⟩ = some (.pointer (some ⟨g, 0, none⟩))) (first | exact s3 | exact s2 | go_keep) (first
    | (go_at_call 38; refine (HM.out _ (bd W)).mono ?_; rintro e w2 ⟨rfl, q2, rfl⟩; have s2 : (W.drew.drewN q2).cell? ⟨Bb, 0, none⟩ = some (.pointer (some ⟨g, 0, none⟩)) := (by simpa using hBb))
    | (go_at_call 28; refine (HF.out _ (bdN W _)).mono ?_; rintro e w3 ⟨v3, rfl, hb3, hne⟩; have HB3 := hid (below2 (bdN W _) hb3); have s3 : w3.cell? ⟨Bb, 0, none⟩ = some (.pointer (some ⟨g, 0, none⟩)) := cell_under HB3.out hBl hBb; obtain ⟨av, cv, hv, hL0⟩ := VF.out _ _ _ rfl hne; subst hv; have HL := hid hL0; clear hL0 hne hb3))
  clear HM HF VF EFL s3 hBb
  gi_wp2
  gi_loopw [17] (fun p wr => ∃ k : Nat, k ≤ L.length ∧ p = .int .i64 (k : Int) ∧ Hid ((0 < L.length → wr.heap[W.heap.size + 1]? = some (.cells (flatE L).toArray 39 (0, 0))) ∧ ∃ W0, J ((items b L).take k) W0 ∧ Below W0.heap.size W0 wr ∧ (k = 0 → W0.heap.size ≤ W.heap.size + 1)))
    (fun p _ => L.length - (intOf p).toNat)
  case atStart => exact ⟨0, by omega, rfl, hid ⟨fun h => (HL.out h).2, W, by rw [List.take_zero]; exact H0.out, HB3.out, fun _ => by omega⟩⟩
  case round =>
    obtain ⟨k, hk, rfl, HR⟩ := hrel
    by_cases hlt : k < L.length
    · have m1 : decide ((k : Int) < (L.length : Int)) = true := decide_eq_true (by omega)
      have m2 : (k : Int) < (L.length : Int) := by omega
      obtain ⟨rfl, _⟩ := HL.out (by omega)
      obtain ⟨x, hx⟩ : ∃ x, L[k]? = some x := ⟨_, List.getElem?_eq_getElem hlt⟩
      obtain ⟨hH, W0, hj, hb0, hf0⟩ := HR.out
      have hH := hH (by omega)
      obtain ⟨y1, y2, y3, y4, y5, y6, y7⟩ := entAt_of (range_of hH hx)
      have hHl : W.heap.size + 1 < wr.heap.size := (Array.getElem?_eq_some_iff.1 hH).1
      have FR : Hid (FreshI (W.heap.size + 1) b L ((items b L).take k) (b + 1 + k, x) W0 (wr.alloc (.cells #[.int .i64 x.c, .int .i64 x.n, .int .i64 x.k, .string x.nm, .string x.tx, .int .i64 x.m, .int .i64 x.q] 39))) := hid ⟨below2 hb0 (ba wr _), by rw [← items_take hx]; exact List.take_prefix _ _, (Below.heap_alloc _ _ _ hHl).trans hH, fun h => hf0 (by
        have := congrArg List.length h
        rw [List.length_take, items_len, List.length_nil] at this
        omega)⟩
      obtain ⟨fn, tmps, assign, body, hy, hR⟩ := HY.out _ (b + 1 + k, x) _ _ hj FR.out (by rw [List.length_take, items_len]; omega)
      have HR2 := hid hR
      have HT : Hid ((items b L).take (k + 1) = (items b L).take k ++ [(b + 1 + k, x)]) := hid (items_take hx)
      clear hj hb0 hf0 hR
      have hHk : W.heap.size + 1 ≠ wr.heap.size := by omega
      have ec : (((b + 1 + k : Nat)) : Int) = (b : Int) + 1 + (k : Int) := by omega
      rw [show ((b + 1 + k, x) : Nat × Ent).1 = b + 1 + k from rfl, show ((b + 1 + k, x) : Nat × Ent).2 = x from rfl, ec] at hy
      unfold Ent.V at hy
      clear ec
      gi_wp2
      refine HR2.out.mono ?_
      rintro e W3 (⟨rfl, hJ3, hkp⟩ | ⟨rfl, hJx3⟩)
      · have hJ3 := hid hJ3
        have HH3 := hid (HK.out _ _ _ FR.out.list hkp)
        clear hkp hy y1 y2 y3 y4 y5 y6 y7
        gi_wp2
        go_roundw
        case rel => exact ⟨k + 1, by omega, by go_num, hid ⟨fun _ => HH3.out, W3, by rw [HT.out]; exact hJ3.out, Below.refl _ _, fun h => by omega⟩⟩
        case measure => simp [intOf]; omega
      · have hJx3 := hid hJx3
        have HP : Hid ((items b L).take (k + 1) <+: items b L) := hid (List.take_prefix _ _)
        clear hy y1 y2 y3 y4 y5 y6 y7
        gi_wp2
        refine bodyPost_ret (results_none rfl _ _ _) rfl ?_
        exact ⟨⟨_, rfl⟩, .inr ⟨_, HP.out, by rw [HT.out]; exact hJx3.out⟩⟩
    · have m1 : decide ((k : Int) < (L.length : Int)) = false := decide_eq_false (by omega)
      have m2 : ¬ (k : Int) < (L.length : Int) := by omega
      have hkl : Hid (k = L.length) := hid (by omega)
      clear hlt hk
      gi_wp2
      go_end0
      obtain ⟨_, W0, hj, hb0, _⟩ := HR.out
      rw [hkl.out, List.take_of_length_le (by rw [items_len]; omega)] at hj
      have hj2 := HJ.out _ _ _ hj hb0
      exact ⟨⟨_, rfl⟩, .inl hj2⟩
end Go.Proofs.Ythjoppgomopkfaa
