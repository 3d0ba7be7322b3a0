import Derived.Test.YthjoppgomopkfaaList
import Derived.Test.YthjoppgomopkfaaLog2
namespace Go.Proofs.Ythjoppgomopkfaa
open Go.RowKit
set_option linter.unusedVariables false

set_option maxHeartbeats 800000 in
set_option maxRecDepth 1000000 in
theorem ringClone_any {h n : Nat} {ps : List Ent} {cs : List Comp} {w : World} (hA : All (blkC h (flatE ps) 39 :: cs) w) (hl : ps.length = n) (hn0 : 0 < n) (hn : n ≤ 64) : Calls Try.prog 49 #[.agg #[.slice (some ⟨h, 0, none⟩) n n]] w fun e w' => ∃ h', e = .returned (.agg #[.slice (some ⟨h', 0, none⟩) n n]) ∧ All (blkC h' (flatE ps) 39 :: blkC h (flatE ps) 39 :: cs) w' := by
  have A0 : Hid (All (blkC (w.heap.size + 1) [.slice none 0 0] 62 :: blkC w.heap.size [.slice (some ⟨h, 0, none⟩) n n] 62 :: blkC h (flatE ps) 39 :: cs) ((w.alloc (.cells #[.slice (some ⟨h, 0, none⟩) n n] 62)).alloc (.cells #[.slice none 0 0] 62))) := hid (by
    simpa using (hA.addBlk [.slice (some ⟨h, 0, none⟩) n n] 62).addBlk [.slice none 0 0] 62)
  have H1 := hid (fun W => room_any (w := W) (some ⟨h, 0, none⟩) n n)
  clear hA
  go_enter Try.func49, Try.ntmps49
  go_wp2_with fail
  generalize hK : w.heap.size = K at *
  generalize ((w.alloc (.cells #[.slice (some ⟨h, 0, none⟩) n n] 62)).alloc (.cells #[.slice none 0 0] 62)) = w1 at *
  refine (H1.out _).mono ?_
  rintro e w2 ⟨rfl, hb⟩
  have A1 := hid (A0.out.later hb)
  clear A0 hb H1
  go_wp2_with fail
  refine (newRing_any A1.out n hn).mono ?_
  rintro e w3 ⟨h', rfl, A2⟩
  have A3 : Hid (All (blkC w3.heap.size [.slice (some ⟨h', 0, none⟩) n n] 62 :: blkC h' (flatE (List.replicate n Ent.zero)) 39 :: blkC (K + 1) [.slice none 0 0] 62 :: blkC K [.slice (some ⟨h, 0, none⟩) n n] 62 :: blkC h (flatE ps) 39 :: cs) (w3.alloc (.cells #[.slice (some ⟨h', 0, none⟩) n n] 62))) := hid (A2.addBlk [.slice (some ⟨h', 0, none⟩) n n] 62)
  clear A1 A2
  have hh : (w3.alloc (.cells #[.slice (some ⟨h', 0, none⟩) n n] 62)).heap[h]? = some (.cells (flatE ps).toArray 39 (0, 0)) := A3.out.tail.tail.tail.tail.1.2.1
  have hc := copy_ents (w := w3.alloc (.cells #[.slice (some ⟨h', 0, none⟩) n n] 62)) h' 0 n n ⟨h, 0, none⟩ n n (flatE (List.replicate n Ent.zero)) 39 (flatE ps) A3.out.tail.1.2.1 (by rw [flatE_len, hl, show Nat.min n n = n from Nat.min_self n]) (by
    have := sub_range hh 0 n
    rw [List.drop_zero, List.take_of_length_le (by omega), Nat.zero_mul] at this
    exact this) (by rw [flatE_len, flatE_len]; simp; omega) (flatE_one _)
  rw [show Nat.min n n = n from Nat.min_self n] at hc
  obtain ⟨wz, hwz⟩ : ∃ wz, wz = ((w3.alloc (.cells #[.slice (some ⟨h', 0, none⟩) n n] 62)).setRow h' (List.take 0 (flatE (List.replicate n Ent.zero)) ++ flatE ps ++ List.drop (0 + (flatE ps).length) (flatE (List.replicate n Ent.zero))).toArray) := ⟨_, rfl⟩
  rw [← hwz] at hc
  have A4 : Hid (All (blkC h' (flatE ps) 39 :: blkC w3.heap.size [.slice (some ⟨h', 0, none⟩) n n] 62 :: blkC (K + 1) [.slice none 0 0] 62 :: blkC K [.slice (some ⟨h, 0, none⟩) n n] 62 :: blkC h (flatE ps) 39 :: cs) wz) := hid (by
    rw [hwz, List.take_zero, List.nil_append, Nat.zero_add, List.drop_eq_nil_of_le (by rw [flatE_len, flatE_len]; simp; omega), List.append_nil]
    refine A3.out.swap.turn (c' := blkC h' (flatE ps) 39) ⟨rfl, rfl, rfl, by simp, fun k _ hk => setRow_other _ _ k _ (by simpa [blkC] using hk)⟩ (blkC_good _ _ _) (setRow_heap _ _ _ _ 39 (0, 0) A3.out.tail.1.2.1) (fun k hk => Or.inl hk) (fun k hk => ?_)
    have := A3.out.tail.1.2.2 k hk
    simpa using this)
  have x0 : (w3.alloc (.cells #[.slice (some ⟨h', 0, none⟩) n n] 62)).cell? ⟨K, 0, none⟩ = some (.slice (some ⟨h, 0, none⟩) n n) := by rw [cell_at A3.out.tail.tail.tail.1.2.1]; rfl
  have z0 : wz.cell? ⟨w3.heap.size, 0, none⟩ = some (.slice (some ⟨h', 0, none⟩) n n) := by rw [cell_at A4.out.tail.1.2.1]; rfl
  have z1 : wz.cell? ⟨K + 1, 0, none⟩ = some (.slice none 0 0) := by rw [cell_at A4.out.tail.tail.1.2.1]; rfl
  have f1 := free_at A4.out.tail.tail.1.2.1 0
  have A5 : Hid (All (blkC (K + 1) [.slice (some ⟨h', 0, none⟩) n n] 62 :: blkC w3.heap.size [.slice (some ⟨h', 0, none⟩) n n] 62 :: blkC h' (flatE ps) 39 :: blkC K [.slice (some ⟨h, 0, none⟩) n n] 62 :: blkC h (flatE ps) 39 :: cs) (wz.setCell ⟨K + 1, 0, none⟩ (.slice (some ⟨h', 0, none⟩) n n))) := hid (A4.out.cba.setBlk 0 _)
  clear A3 A4 hh hwz
  go_wp2
  refine bodyPost_ret (v := .agg #[.slice (some ⟨h', 0, none⟩) n n]) (results_cell_row (fn := Try.f49) rfl _ _ (K + 1) 62 #[.slice (some ⟨h', 0, none⟩) n n] (0, 0) _ rfl A5.out.1.2.1 Try.underlying62 rfl (by kernel_rfl)) rfl ?_
  exact ⟨h', rfl, A5.out.tail.tail.swap.tail⟩

set_option maxHeartbeats 800000 in
set_option maxRecDepth 1000000 in
theorem Clone_any {g h b n : Nat} {l ps : List Ent} {cs : List Comp} {w : World} (hA : All (logP g h b (b + l.length) n ps ++ cs) w) (k : LogOk b n l ps) : Calls Try.prog 46 #[.pointer (some ⟨g, 0, none⟩)] w fun e w' => ∃ g' h', e = .returned (.pointer (some ⟨g', 0, none⟩)) ∧ All (logP g' h' b (b + l.length) n ps ++ (logP g h b (b + l.length) n ps ++ cs)) w' := by
  have c0 := hA.head.c0
  have c1 := hA.head.c1
  have c2 := hA.head.c2
  have hg : g < w.heap.size := (Array.getElem?_eq_some_iff.1 hA.head).1
  have n1 : g ≠ w.heap.size := by omega
  have A1 : Hid (All (blkC w.heap.size (headV b (b + l.length) h n) 65 :: (logP g h b (b + l.length) n ps ++ cs)) (w.alloc (.cells #[.int .i64 (b : Int), .int .i64 ((b + l.length : Nat) : Int), .slice (some ⟨h, 0, none⟩) n n] 65))) := hid (hA.addBlk (headV b (b + l.length) h n) 65)
  have H := hid (ringClone_any (A1.out.cba) k.len k.pos k.le)
  clear hA k
  generalize hq : b + l.length = q at *
  go_enter Try.func46, Try.ntmps46
  go_wp2_with fail
  refine H.out.mono ?_
  rintro e w1 ⟨h', rfl, A2⟩
  have A3 : Hid (All (blkC w.heap.size (headV b q h n) 65 :: blkC h' (flatE ps) 39 :: (logP g h b q n ps ++ cs)) w1) := hid (by
    refine A2.perm ?_
    exact (List.Perm.cons _ ((List.Perm.swap _ _ _).trans ((List.Perm.cons _ (List.Perm.swap _ _ _)).trans (List.Perm.swap _ _ _)))).trans (List.Perm.swap _ _ _))
  have e := A3.out.1.2.1
  have d2 : w1.cell? ⟨w.heap.size, 2, none⟩ = some (.slice (some ⟨h, 0, none⟩) n n) := by rw [cell_at e]; rfl
  have f2 := free_at e 2
  have A4 := hid (A3.out.setBlk 2 (.slice (some ⟨h', 0, none⟩) n n))
  clear H A2 A3 e
  go_wp2
  go_ret
  subst hq
  exact ⟨_, h', rfl, A4.out⟩
end Go.Proofs.Ythjoppgomopkfaa
