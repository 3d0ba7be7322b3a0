import Derived.Test.YthjoppgomopkfaaRing2
import Derived.Laws.CopyRow
namespace Go.Proofs.Ythjoppgomopkfaa
open Go.RowKit
set_option linter.unusedVariables false

/-- Entries are copied into a block. -/
theorem copy_ents {w : World} (g o dLen dCap : Nat) (a : Addr) (sLen sCap : Nat) (cur : List Value) (t : TypeId) (cs : List Value) (hg : w.heap[g]? = some (.cells cur.toArray t (0, 0))) (hn : cs.length = Nat.min sLen dLen * 7)
    (hsrc : ∀ j v, cs[j]? = some v → w.cell? (a.add j) = some v) (hfit : o + cs.length ≤ cur.length) (h1 : ∀ v ∈ cs, v.oneCell' = true) :
    (Builtin.copy_ #[40, 40] 3 #[.slice (some ⟨g, o, none⟩) dLen dCap, .slice (some a) sLen sCap]).run Try.prog w = .ok (goInt (Nat.min sLen dLen)) (w.setRow g (cur.take o ++ cs ++ cur.drop (o + cs.length)).toArray) := by
  have hl := run_loadCells_list (P := Try.prog) w a cs hsrc
  have hst := run_storeCells_at Try.prog g o t cs 0 cur.toArray w hg (by simpa using hfit) h1
  obtain ⟨i0, hi, hz0, hz1, hz2⟩ := info_parts Try.info39
  simp [Builtin.copy_, run_underlying Try.underlying40, Builtin.lenOf, Builtin.firstCells, sizeOf, typeInfo, hi, hz1, ← hn, hl, hst]

theorem take_two {α : Type} (a b : List α) (m : Nat) (hm : m ≤ a.length + b.length) : a.take (Nat.min a.length m) ++ b.take (m - Nat.min a.length m) = (a ++ b).take m := by
  rw [List.take_append]
  by_cases h : m ≤ a.length
  · have : Nat.min a.length m = m := Nat.min_eq_right h
    rw [this]
    congr 1
    rw [show m - m = 0 by omega, show m - a.length = 0 by omega]
  · have : Nat.min a.length m = a.length := Nat.min_eq_left (by omega)
    rw [this, List.take_of_length_le (l := a) (i := a.length) (Nat.le_refl _), List.take_of_length_le (l := a) (i := m) (by omega)]

theorem splice (a z c : List Value) (q : Nat) (ha : a.length = q) (hz : z.length = c.length) : (a ++ z).take q ++ c ++ (a ++ z).drop (q + c.length) = a ++ c := by
  subst ha
  rw [List.take_left, List.drop_append, List.drop_eq_nil_of_le (by omega), List.nil_append, Nat.add_sub_cancel_left, List.drop_eq_nil_of_le (by omega), List.append_nil]

theorem sub_range {w : World} {b : Nat} {l : List Ent} {t : TypeId} (h : w.heap[b]? = some (.cells (flatE l).toArray t (0, 0))) (p : Nat) (m : Nat) : ∀ j v, (flatE ((l.drop p).take m))[j]? = some v → w.cell? ((⟨b, p * 7, none⟩ : Addr).add j) = some v := by
  intro j v hv
  rw [Addr.add_lit, cell_at h, List.getElem?_toArray]
  rw [← flatE_take, ← flatE_drop, List.getElem?_take] at hv
  split at hv
  · rw [List.getElem?_drop] at hv
    exact hv
  · cases hv

set_option maxHeartbeats 800000 in
set_option maxRecDepth 1000000 in
theorem list_core {h n k m : Nat} {ps : List Ent} {w : World} (hr : w.heap[h]? = some (.cells (flatE ps).toArray 39 (0, 0))) (hl : ps.length = n) (hn : 0 < n) (hn' : n ≤ 64) (hk : k ≤ 1099511627776) (hm : m ≤ n) : Calls Try.prog 45 #[.agg #[.slice (some ⟨h, 0, none⟩) n n], .int .i64 (k : Int), .int .i64 (m : Int)] w fun e w' => ∃ H, e = .returned (.slice (some ⟨H, 0, none⟩) m m) ∧ H = w.heap.size + 1 ∧ w'.heap[H]? = some (.cells (flatE ((ps.drop (k % n) ++ ps).take m)).toArray 39 (0, 0)) ∧ Below w.heap.size w w' := by
  have hpn := Nat.mod_lt k hn
  have hh : h < w.heap.size := (Array.getElem?_eq_some_iff.1 hr).1
  have HP := hid (fun w => place_any (w := w) (some ⟨h, 0, none⟩) n n k hn hn' hk)
  have M := fun w => make_ents (w := w) m (by omega)
  have A0 : Hid (All [blkC (w.heap.size + 1) (flatE (List.replicate m Ent.zero)) 39, blkC w.heap.size [.slice (some ⟨h, 0, none⟩) n n] 62, inC w] ((w.alloc (.cells #[.slice (some ⟨h, 0, none⟩) n n] 62)).alloc (.cells (flatE (List.replicate m Ent.zero)).toArray 39))) := hid (by
    simpa using ((All.came w).addBlk [.slice (some ⟨h, 0, none⟩) n n] 62).addBlk (flatE (List.replicate m Ent.zero)) 39)
  generalize hp : k % n = p at *
  obtain ⟨q, hq⟩ : ∃ q, q = Nat.min (n - p) m := ⟨_, rfl⟩
  have hqm : q ≤ m := by rw [hq]; exact Nat.min_le_right _ _
  have hqn : q ≤ n - p := by rw [hq]; exact Nat.min_le_left _ _
  have hd : (ps.drop p).length = n - p := by simp [hl]
  have hout : Hid (flatE ((ps.drop p).take q) ++ flatE (ps.take (m - q)) = flatE ((ps.drop p ++ ps).take m)) := hid (by
    rw [← flatE_append, hq, ← hd, take_two _ _ _ (by rw [hd, hl]; omega)])
  have C1 : Hid (∀ W, All [blkC (w.heap.size + 1) (flatE (List.replicate m Ent.zero)) 39, blkC w.heap.size [.slice (some ⟨h, 0, none⟩) n n] 62, inC w] W → ∃ Wz, (Builtin.copy_ #[40, 40] 3 #[.slice (some ⟨w.heap.size + 1, 0, none⟩) m m, .slice (some ⟨h, p * 7, none⟩) (n - p) (n - p)]).run Try.prog W = .ok (.int .i64 (q : Int)) Wz ∧ All [blkC (w.heap.size + 1) (flatE ((ps.drop p).take q) ++ flatE (List.replicate (m - q) Ent.zero)) 39, blkC w.heap.size [.slice (some ⟨h, 0, none⟩) n n] 62, inC w] Wz) := hid (fun W A => by
    have hrW : W.heap[h]? = some (.cells (flatE ps).toArray 39 (0, 0)) := ((A.into (w0 := w) (by simp)).block h hh).trans hr
    have hln : (flatE ((ps.drop p).take q)).length = q * 7 := by rw [flatE_len, List.length_take, hd, Nat.min_eq_left hqn]
    have hc := copy_ents (w := W) (w.heap.size + 1) 0 m m ⟨h, p * 7, none⟩ (n - p) (n - p) (flatE (List.replicate m Ent.zero)) 39 (flatE ((ps.drop p).take q)) A.1.2.1 (by rw [hln, ← hq]) (sub_range hrW p q) (by rw [hln, flatE_len]; simp; omega) (flatE_one _)
    rw [← hq] at hc
    refine ⟨_, hc, ?_⟩
    rw [hln, List.take_zero, List.nil_append, Nat.zero_add, flatE_drop, List.drop_replicate]
    refine A.turn (c' := blkC (w.heap.size + 1) (flatE ((ps.drop p).take q) ++ flatE (List.replicate (m - q) Ent.zero)) 39) ⟨rfl, rfl, rfl, by simp, fun k _ hk => setRow_other W _ k _ (by simpa [blkC] using hk)⟩ (blkC_good _ _ _) (setRow_heap W _ _ _ 39 (0, 0) A.1.2.1) (fun k hk => Or.inl hk) (fun k hk => ?_)
    have := A.1.2.2 k hk
    simpa using this)
  have C2 : Hid (∀ W, All [blkC (w.heap.size + 1) (flatE ((ps.drop p).take q) ++ flatE (List.replicate (m - q) Ent.zero)) 39, blkC w.heap.size [.slice (some ⟨h, 0, none⟩) n n] 62, inC w] W → ∃ Wz, (Builtin.copy_ #[40, 40] 3 #[.slice (some ⟨w.heap.size + 1, q * 7, none⟩) (m - q) (m - q), .slice (some ⟨h, 0, none⟩) n n]).run Try.prog W = .ok (.int .i64 ((m - q : Nat) : Int)) Wz ∧ All [blkC (w.heap.size + 1) (flatE ((ps.drop p ++ ps).take m)) 39, blkC w.heap.size [.slice (some ⟨h, 0, none⟩) n n] 62, inC w] Wz) := hid (fun W A => by
    have hrW : W.heap[h]? = some (.cells (flatE ps).toArray 39 (0, 0)) := ((A.into (w0 := w) (by simp)).block h hh).trans hr
    have hln : (flatE ((ps.drop p).take q)).length = q * 7 := by rw [flatE_len, List.length_take, hd, Nat.min_eq_left hqn]
    have hl2 : (flatE (ps.take (m - q))).length = (m - q) * 7 := by rw [flatE_len, List.length_take, hl, Nat.min_eq_left (by omega)]
    have hl3 : (flatE (List.replicate (m - q) Ent.zero)).length = (m - q) * 7 := by rw [flatE_len]; simp
    have hsr := sub_range hrW 0 (m - q)
    rw [List.drop_zero, Nat.zero_mul] at hsr
    have hc := copy_ents (w := W) (w.heap.size + 1) (q * 7) (m - q) (m - q) ⟨h, 0, none⟩ n n _ 39 (flatE (ps.take (m - q))) A.1.2.1 (by rw [hl2, show Nat.min n (m - q) = m - q from Nat.min_eq_right (by omega)]) hsr (by rw [List.length_append, hln, hl2, hl3]; omega) (flatE_one _)
    rw [show Nat.min n (m - q) = m - q from Nat.min_eq_right (by omega)] at hc
    refine ⟨_, hc, ?_⟩
    rw [splice _ _ _ _ hln (by rw [hl2, hl3]), hout.out]
    refine A.turn (c' := blkC (w.heap.size + 1) (flatE ((ps.drop p ++ ps).take m)) 39) ⟨rfl, rfl, rfl, by simp, fun k _ hk => setRow_other W _ k _ (by simpa [blkC] using hk)⟩ (blkC_good _ _ _) (setRow_heap W _ _ _ 39 (0, 0) A.1.2.1) (fun k hk => Or.inl hk) (fun k hk => ?_)
    have := A.1.2.2 k hk
    simpa using this)
  have C3 : Hid (m = q → ∀ W, All [blkC (w.heap.size + 1) (flatE ((ps.drop p).take q) ++ flatE (List.replicate (m - q) Ent.zero)) 39, blkC w.heap.size [.slice (some ⟨h, 0, none⟩) n n] 62, inC w] W → ∃ Wz, (Builtin.copy_ #[40, 40] 3 #[.slice (some ⟨w.heap.size + 1, 0, none⟩) 0 0, .slice (some ⟨h, 0, none⟩) n n]).run Try.prog W = .ok (.int .i64 0) Wz ∧ All [blkC (w.heap.size + 1) (flatE ((ps.drop p ++ ps).take m)) 39, blkC w.heap.size [.slice (some ⟨h, 0, none⟩) n n] 62, inC w] Wz) := hid (fun hmq W A => by
    have hc := copy_ents (w := W) (w.heap.size + 1) 0 0 0 ⟨h, 0, none⟩ n n _ 39 [] A.1.2.1 (by simp) (fun j v hv => by simp at hv) (by simp) (fun v hv => by cases hv)
    rw [show Nat.min n 0 = 0 from Nat.min_eq_right (by omega)] at hc
    refine ⟨_, hc, ?_⟩
    have e := hout.out
    rw [show m - q = 0 by omega, List.take_zero, flatE_nil, List.append_nil] at e
    rw [← e]
    simp only [List.take_zero, List.nil_append, List.length_nil, Nat.add_zero, List.drop_zero]
    rw [show m - q = 0 by omega] at A ⊢
    simp only [List.replicate_zero, flatE_nil, List.append_nil] at A ⊢
    refine A.turn (c' := blkC (w.heap.size + 1) (flatE ((ps.drop p).take q)) 39) ⟨rfl, rfl, rfl, by simp, fun k _ hk => setRow_other W _ k _ (by simpa [blkC] using hk)⟩ (blkC_good _ _ _) (setRow_heap W _ _ _ 39 (0, 0) A.1.2.1) (fun k hk => Or.inl hk) (fun k hk => ?_)
    have := A.1.2.2 k hk
    simpa using this)
  have s0 : ((w.alloc (.cells #[.slice (some ⟨h, 0, none⟩) n n] 62)).alloc (.cells (flatE (List.replicate m Ent.zero)).toArray 39)).cell? ⟨w.heap.size, 0, none⟩ = some (.slice (some ⟨h, 0, none⟩) n n) := by rw [cell_at A0.out.tail.1.2.1]; rfl
  have hpi : (p : Int) ≤ (n : Int) := by omega
  have hnp : ¬ n = p := by omega
  have hnp0 : ¬ n - p = 0 := by omega
  have hqi : (q : Int) ≤ (m : Int) := by omega
  clear hp hq hout hd hr hl hk
  go_enter Try.func45, Try.ntmps45
  go_upto_region 2 with fail
  generalize ((w.alloc (.cells #[.slice (some ⟨h, 0, none⟩) n n] 62)).alloc (.cells (flatE (List.replicate m Ent.zero)).toArray 39)) = w1 at *
  generalize hK : w.heap.size = K at *
  go_region_held3 (fun W => W.cell? ⟨K, 0, none⟩ = some (.slice (some ⟨h, 0, none⟩) n n)) (first | exact sz | go_keep) (first | (go_at_call 48; refine (HP.out _).mono ?_; rintro e w2 ⟨rfl, hb⟩; have A2 := hid (A0.out.drew.later hb); have s0 : w2.cell? ⟨K, 0, none⟩ = some (.slice (some ⟨h, 0, none⟩) n n) := (by rw [cell_at A2.out.tail.1.2.1]; rfl); obtain ⟨wz, cz, Az⟩ := C1.out _ A2.out; have Az := hid Az; have sz : wz.cell? ⟨K, 0, none⟩ = some (.slice (some ⟨h, 0, none⟩) n n) := (by rw [cell_at Az.out.tail.1.2.1]; rfl)))
  clear s0 A2 hb cz C1 A0 M HP
  by_cases hmq : m = q
  · obtain ⟨wy, cy, Ay⟩ := C3.out hmq _ Az.out.drew
    have Ay := hid Ay
    have sy : wy.cell? ⟨K, 0, none⟩ = some (.slice (some ⟨h, 0, none⟩) n n) := by rw [cell_at Ay.out.tail.1.2.1]; rfl
    clear C3 C2
    subst hmq
    go_upto_region 3 with fail
    go_region_held3 (fun W => W.cell? ⟨K, 0, none⟩ = some (.slice (some ⟨h, 0, none⟩) n n)) (first | exact sy | go_keep) (fail)
    go_wp2
    go_ret
    exact ⟨K + 1, rfl, by rw [hK], Ay.out.1.2.1, Ay.out.into (w0 := w) (by simp)⟩
  · obtain ⟨wy, cy, Ay⟩ := C2.out _ Az.out.drew
    have Ay := hid Ay
    have sy : wy.cell? ⟨K, 0, none⟩ = some (.slice (some ⟨h, 0, none⟩) n n) := by rw [cell_at Ay.out.tail.1.2.1]; rfl
    clear C3 C2
    go_upto_region 3 with fail
    go_region_held3 (fun W => W.cell? ⟨K, 0, none⟩ = some (.slice (some ⟨h, 0, none⟩) n n)) (first | exact sy | go_keep) (fail)
    go_wp2
    go_ret
    exact ⟨K + 1, rfl, by rw [hK], Ay.out.1.2.1, Ay.out.into (w0 := w) (by simp)⟩
end Go.Proofs.Ythjoppgomopkfaa
