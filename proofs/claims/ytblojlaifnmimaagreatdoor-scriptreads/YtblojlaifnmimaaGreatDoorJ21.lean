import Derived.Test.YtblojlaifnmimaaGreatDoorSz
import Derived.Test.YtblojlaifnmimaaGreatDoorRh
import Derived.Test.YtblojlaifnmimaaGreatDoorSx
import Derived.Test.YtblojlaifnmimaaGreatDoorJ18
import Derived.Test.YtblojlaifnmimaaGreatDoorJ19
namespace Go.Proofs.YtblojlaifnmimaaGreatDoor
open Go.RowKit
set_option linter.unusedVariables false

theorem flat_take : ∀ (l : List Sp) (i : Nat), (l.flatMap Sp.vals).take (i * 10) = (l.take i).flatMap Sp.vals
  | [], i => by simp
  | x :: r, 0 => by simp
  | x :: r, i + 1 => by
    rw [List.flatMap_cons, List.take_succ_cons, List.flatMap_cons, ← flat_take r i, show (i + 1) * 10 = x.vals.length + i * 10 by rw [x.len]; omega, List.take_length_add_append]
theorem flat_drop : ∀ (l : List Sp) (i : Nat), (l.flatMap Sp.vals).drop (i * 10) = (l.drop i).flatMap Sp.vals
  | [], i => by simp
  | x :: r, 0 => by simp
  | x :: r, i + 1 => by
    rw [List.flatMap_cons, List.drop_succ_cons, ← flat_drop r i, show (i + 1) * 10 = x.vals.length + i * 10 by rw [x.len]; omega, List.drop_length_add_append]
theorem flatS_len (l : List Sp) : (l.flatMap Sp.vals).length = l.length * 10 := flat_len Sp.len l
/-- A step of a row is written. -/
theorem sp_store {v : Value} {ss : List Sp} {cs : List Comp} {w : World} {i n : Nat} (x : Sp) (A : All (spC v ss :: cs) w) (hi : i < n) (hn : ss.length = n) : ∃ g c, v = .slice (some ⟨g, 0, none⟩) n c ∧ w.there g (i * 10) x.vals.toArray.size ∧ All (spC v (ss.set i x) :: cs) (w.setCells g (i * 10) x.vals) := by
  subst hn
  obtain ⟨hl, hcase⟩ := (A.1.2.1 : w.ownsRow 0 43 10 v ss.length (ss.flatMap Sp.vals))
  rcases hcase with ⟨_, h0⟩ | ⟨g, cap, cur, rfl, _, hh, hc, hm, hs, ht⟩
  · omega
  · have A1 : All (blkC g cur.toList 43 :: cs) w := A.turn (Fr.refl _ _) (blkC_good _ _ _) (show w.heap[g]? = some (.cells cur.toList.toArray 43 (0, 0)) by simpa using hh) (fun k hk => Or.inl (by simpa [blkC, rowC, Value.ownBlock] using hk)) (fun k hk => A.1.2.2 k (by simpa [blkC, rowC, Value.ownBlock] using hk))
    have hcl : cur.toList.length = cap * 10 := by simpa using hs
    have hle : (i + 1) * 10 ≤ cur.toList.length := by rw [hcl]; omega
    refine ⟨g, cap, rfl, blk_there A1 (.head _) (by rw [List.size_toArray, x.len]; omega), ?_⟩
    have B := A1.setMid x.vals cur.toList (i * 10)
    have ew : (w.setCells g (i * 10) x.vals).heap[g]? = some (.cells (setMid cur.toList (i * 10) x.vals).toArray 43 (0, 0)) := B.1.2.1
    have es := setMid_eq x.vals cur.toList (i * 10) (by rw [x.len]; omega)
    refine B.turn (Fr.refl _ _) (rowC_good _ _ _ _ _) ?_ (fun k hk => Or.inl (by simpa [blkC, rowC, Value.ownBlock] using hk)) (fun k hk => B.1.2.2 k (by simpa [blkC, rowC, Value.ownBlock] using hk))
    show World.ownsRow _ 0 43 10 _ (ss.set i x).length ((ss.set i x).flatMap Sp.vals)
    refine ⟨flatS_len _, Or.inr ⟨g, cap, _, by rw [List.length_set], Nat.zero_le _, ew, by rw [List.length_set]; exact hc, hm, ?_, ?_⟩⟩
    · rw [List.size_toArray, es]
      simp only [List.length_append, List.length_take, List.length_drop, x.len]
      omega
    · show (setMid cur.toList (i * 10) x.vals).take _ = _
      have e1 : ss.set i x = ss.take i ++ x :: ss.drop (i + 1) := List.set_eq_take_append_cons_drop.trans (by rw [if_pos hi])
      have e2 : cur.toList.take (i * 10) = (ss.take i).flatMap Sp.vals := by
        rw [← flat_take, ← ht, List.take_take, Nat.min_eq_left (by omega)]
      have e3 : (cur.toList.drop (i * 10 + 10)).take (ss.length * 10 - (i * 10 + 10)) = (ss.drop (i + 1)).flatMap Sp.vals := by
        rw [← flat_drop, ← ht, List.drop_take, show (i + 1) * 10 = i * 10 + 10 by omega]
      rw [es, e1, List.flatMap_append, List.flatMap_cons, List.length_append, List.length_cons, List.append_assoc, x.len]
      have h1 : (cur.toList.take (i * 10)).length = i * 10 := by rw [List.length_take]; omega
      have el : (ss.take i).length + ((ss.drop (i + 1)).length + 1) = ss.length := by rw [List.length_take, List.length_drop]; omega
      rw [el, show ss.length * 10 = (cur.toList.take (i * 10)).length + (ss.length * 10 - i * 10) by rw [h1]; omega, List.take_length_add_append, e2]
      refine congrArg (fun q => (ss.take i).flatMap Sp.vals ++ q) ?_
      rw [show ss.length * 10 - i * 10 = x.vals.length + (ss.length * 10 - (i * 10 + 10)) by rw [x.len]; omega, List.take_length_add_append, e3]
/-- The first steps of a row are a step's. -/
def Wp (n k : Nat) (s : List Sp) (z : Sp) : Prop := s.length = n ∧ ∀ j, j < k → s[j]? = some z
theorem Wp.set {n k : Nat} {s : List Sp} {z : Sp} (h : Wp n k s z) (hk : k < n) : Wp n (k + 1) (s.set k z) z := by
  refine ⟨by rw [List.length_set]; exact h.1, fun j hj => ?_⟩
  rw [List.getElem?_set]
  by_cases hjk : k = j
  · subst hjk
    rw [if_pos rfl, if_pos (by rw [h.1]; exact hk)]
  · rw [if_neg hjk]
    exact h.2 j (by omega)
theorem Wp.add {n : Nat} {s : List Sp} {z : Sp} (h : Wp n n s z) : Wp (n + 1) (n + 1) (s ++ [z]) z := by
  refine ⟨by rw [List.length_append, h.1]; rfl, fun j hj => ?_⟩
  by_cases hjn : j < n
  · rw [List.getElem?_append_left (by rw [h.1]; exact hjn)]
    exact h.2 j hjn
  · have : j = n := by omega
    subst this
    rw [List.getElem?_append_right (by rw [h.1]; exact Nat.le_refl _), h.1, Nat.sub_self]
    rfl
def z0S : Sp := ⟨-1, 0, 0, 0, 0, .zero⟩
def z1S : Sp := ⟨-2, 0, 0, 0, 0, .zero⟩
def plP (c : List Int) (u v : Value) : List Value := cI c ++ [u] ++ (cI c ++ [v])
theorem plP_at {c : List Int} {u v : Value} (h : c.length = 10) : (plP c u v)[10]? = some u ∧ (plP c u v)[21]? = some v := by
  obtain ⟨a0, a1, a2, a3, a4, a5, a6, a7, a8, a9, rfl⟩ := ten h
  exact ⟨rfl, rfl⟩
theorem plP_set {c : List Int} {u v x : Value} (h : c.length = 10) : (plP c u v).set 10 x = plP c x v ∧ (plP c u v).set 21 x = plP c u x := by
  obtain ⟨a0, a1, a2, a3, a4, a5, a6, a7, a8, a9, rfl⟩ := ten h
  exact ⟨rfl, rfl⟩
end Go.Proofs.YtblojlaifnmimaaGreatDoor

namespace Go.Proofs.YtblojlaifnmimaaGreatDoor
open Go.RowKit
set_option linter.unusedVariables false
theorem perm3c {α : Type} (a b c : α) (cs : List α) : (a :: b :: c :: cs).Perm (a :: c :: b :: cs) := (List.Perm.swap c b cs).cons a

set_option maxHeartbeats 6400000 in
set_option maxRecDepth 1000000 in
/-- What the owner does to two plays. -/
theorem wipe_any {c : List Int} {ss : List Sp} {v0 v1 : Value} {PB : Nat} {cs : List Comp} {w : World} (A : All (blkC PB (plP c v0 v1) 27 :: spC v0 ss :: spC v1 ss :: cs) w) (hc : c.length = 10) (hn : ss.length ≤ 4000) :
    Calls Tryz.prog 12 #[.slice (some ⟨PB, 0, none⟩) 2 2] w fun e w' => e = .returned (.bool true) ∧ All cs w' := by
  obtain ⟨ao0, k0, rfl⟩ := owns_form (A.tail.1.2.1 : w.ownsRow 0 43 10 v0 ss.length _)
  obtain ⟨ao1, k1, rfl⟩ := owns_form (A.tail.tail.1.2.1 : w.ownsRow 0 43 10 v1 ss.length _)
  have PA : Hid (∀ u v, (plP c u v)[10]? = some u ∧ (plP c u v)[21]? = some v) := hid (fun u v => plP_at hc)
  have PS : Hid (∀ u v x, (plP c u v).set 10 x = plP c x v ∧ (plP c u v).set 21 x = plP c u x) := hid (fun u v x => plP_set hc)
  obtain ⟨C0, hC0⟩ : ∃ C : Array Value, C = #[.int .i64 (-1), .int .i64 0, .int .i64 0, .int .i64 0, .int .i64 0, .int .i64 0, .string ⟨#[]⟩, .string ⟨#[]⟩, .int .i64 0, .int .i64 0] := ⟨_, rfl⟩
  have HC0 := hid hC0
  have HZ0 : Hid (z0S.vals = C0.toList) := hid (by rw [hC0]; rfl)
  have I0 : Hid ((Tryz.prog.info? 43).map (·.size) = some C0.size) := hid (by rw [hC0]; exact Tryz.i43)
  have O0 : Hid (C0.all (·.oneCell') = true) := hid (by rw [hC0]; exact sp_one z0S)
  clear hC0
  obtain ⟨C1, hC1⟩ : ∃ C : Array Value, C = #[.int .i64 (-2), .int .i64 0, .int .i64 0, .int .i64 0, .int .i64 0, .int .i64 0, .string ⟨#[]⟩, .string ⟨#[]⟩, .int .i64 0, .int .i64 0] := ⟨_, rfl⟩
  have HC1 := hid hC1
  have HZ1 : Hid (z1S.vals = C1.toList) := hid (by rw [hC1]; rfl)
  have I1 : Hid ((Tryz.prog.info? 43).map (·.size) = some C1.size) := hid (by rw [hC1]; exact Tryz.i43)
  have O1 : Hid (C1.all (·.oneCell') = true) := hid (by rw [hC1]; exact sp_one z1S)
  clear hC1
  have A0 := hid A
  obtain ⟨n, hN⟩ : ∃ n, ss.length = n := ⟨_, rfl⟩
  rw [hN] at A0 hn
  have B0 : Hid (Wp n 0 ss z0S) := hid ⟨hN, fun j hj => by omega⟩
  have B1 : Hid (Wp n 0 ss z1S) := hid ⟨hN, fun j hj => by omega⟩
  clear A hc hN
  go_enter Tryz.func12, Tryz.ntmps12
  go_upto_block 0 with fail
  go_cut [] (fun wx => ∃ s0 s1, Hid (Wp n n s0 z0S) ∧ Hid (Wp n n s1 z1S) ∧ Hid (All (blkC PB (plP c (.slice ao0 n k0) (.slice ao1 n k1)) 27 :: spC (.slice ao0 n k0) s0 :: spC (.slice ao1 n k1) s1 :: cs) wx))
  case first =>
    go_wp2_with fail
    go_loopw [3] (fun iv wr => ∃ (i : Nat) (s0 s1 : List Sp), i ≤ 2 ∧ iv = .int .i64 (i : Int) ∧ Hid (Wp n (if 0 < i then n else 0) s0 z0S) ∧ Hid (Wp n (if 1 < i then n else 0) s1 z1S) ∧ Hid (All (blkC PB (plP c (.slice ao0 n k0) (.slice ao1 n k1)) 27 :: spC (.slice ao0 n k0) s0 :: spC (.slice ao1 n k1) s1 :: cs) wr)) (fun iv _ => 2 - (intOf iv).toNat)
    case atStart => exact ⟨0, ss, ss, by omega, rfl, B0, B1, A0⟩
    case round =>
      obtain ⟨i, s0, s1, hi, rfl, hW0, hW1, HA⟩ := hrel
      clear A0 B0 B1
      by_cases hlt : i < 2
      · obtain rfl | rfl : i = 0 ∨ i = 1 := by omega
        · clear hlt hi
          rw [show ((0 : Nat) : Int) = 0 from rfl]
          go_wp2_with fail
          go_loopw [4] (fun kv wr => ∃ (k : Nat) (t : List Sp), k ≤ n ∧ kv = .int .i64 (k : Int) ∧ Hid (Wp n k t z0S) ∧ Hid (All (blkC PB (plP c (.slice ao0 n k0) (.slice ao1 n k1)) 27 :: spC (.slice ao0 n k0) t :: spC (.slice ao1 n k1) s1 :: cs) wr)) (fun kv _ => n - (intOf kv).toNat)
          case atStart => exact ⟨0, s0, Nat.zero_le _, rfl, hW0, HA⟩
          case round =>
            obtain ⟨k, t, hk, rfl, hT, HB⟩ := hrel
            clear HA hW0
            have y := (blk_at HB.out (.head _) (PA.out _ _).1).1
            by_cases hkl : k < n
            · have hkl' : (k : Int) < (n : Int) := by omega
              obtain ⟨g, cg, eg, th, A2⟩ := sp_store z0S HB.out.swap hkl hT.out.1
              simp only [Value.slice.injEq, true_and] at eg
              obtain ⟨rfl, -⟩ := eg
              rw [HZ0.out] at th A2
              rw [Array.toArray_toList] at th
              have TH := hid th
              have K2 := hid A2.swap
              have nT := hid (hT.out.set hkl)
              clear th A2 hT HB
              go_wp2_with (refine wpList_store_mid rfl 43 _ _ rfl g (k * 10) C0 rfl (by rw [HC0.out]; rfl) TH.out I0.out O0.out ?_)
              go_roundw
              case rel => exact ⟨k + 1, t.set k z0S, by omega, by go_num, nT, K2⟩
              case measure => simp [intOf]; omega
            · have hkl' : ¬ (k : Int) < (n : Int) := by omega
              have ek : Hid (k = n) := hid (by omega)
              go_wp2
              go_roundw
              case rel => exact ⟨1, t, s1, by omega, rfl, hid (by have := hT.out; rw [ek.out] at this; exact this), hW1, HB⟩
              case measure => simp [intOf]
        · clear hlt hi
          rw [show ((1 : Nat) : Int) = 1 from rfl]
          go_wp2_with fail
          go_loopw [4] (fun kv wr => ∃ (k : Nat) (t : List Sp), k ≤ n ∧ kv = .int .i64 (k : Int) ∧ Hid (Wp n k t z1S) ∧ Hid (All (blkC PB (plP c (.slice ao0 n k0) (.slice ao1 n k1)) 27 :: spC (.slice ao0 n k0) s0 :: spC (.slice ao1 n k1) t :: cs) wr)) (fun kv _ => n - (intOf kv).toNat)
          case atStart => exact ⟨0, s1, Nat.zero_le _, rfl, hW1, HA⟩
          case round =>
            obtain ⟨k, t, hk, rfl, hT, HB⟩ := hrel
            clear HA hW1
            have y := (blk_at HB.out (.head _) (PA.out _ _).2).1
            by_cases hkl : k < n
            · have hkl' : (k : Int) < (n : Int) := by omega
              obtain ⟨g, cg, eg, th, A2⟩ := sp_store z1S (HB.out.perm (perm3a _ _ _ _)) hkl hT.out.1
              simp only [Value.slice.injEq, true_and] at eg
              obtain ⟨rfl, -⟩ := eg
              rw [HZ1.out] at th A2
              rw [Array.toArray_toList] at th
              have TH := hid th
              have K2 := hid (A2.perm (perm3b _ _ _ _))
              have nT := hid (hT.out.set hkl)
              clear th A2 hT HB
              go_wp2_with (refine wpList_store_mid rfl 43 _ _ rfl g (k * 10) C1 rfl (by rw [HC1.out]; rfl) TH.out I1.out O1.out ?_)
              go_roundw
              case rel => exact ⟨k + 1, t.set k z1S, by omega, by go_num, nT, K2⟩
              case measure => simp [intOf]; omega
            · have hkl' : ¬ (k : Int) < (n : Int) := by omega
              have ek : Hid (k = n) := hid (by omega)
              go_wp2
              go_roundw
              case rel => exact ⟨2, s0, t, by omega, rfl, hW0, hid (by have := hT.out; rw [ek.out] at this; exact this), HB⟩
              case measure => simp [intOf]
      · have hlt' : ¬ (i : Int) < 2 := by omega
        obtain rfl : i = 2 := by omega
        clear hlt hi
        go_wp2
        go_meet
        exact ⟨s0, s1, hW0, hW1, HA⟩
  case rest =>
    obtain ⟨s0, s1, hW0, hW1, K1⟩ := hcut
    clear A0 B0 B1
    have B0 : Hid ((∃ a b, Value.slice ao0 n k0 = .slice a n b) ∧ Wp n n s0 z0S) := hid ⟨⟨_, _, rfl⟩, hW0.out⟩
    have B1 : Hid ((∃ a b, Value.slice ao1 n k1 = .slice a n b) ∧ Wp n n s1 z1S) := hid ⟨⟨_, _, rfl⟩, hW1.out⟩
    clear hW0 hW1
    go_upto_block 4 with fail
    go_cut [] (fun wx => ∃ a0 b0 a1 b1 s0 s1, Hid (Wp (n + 4) (n + 4) s0 z0S) ∧ Hid (Wp (n + 4) (n + 4) s1 z1S) ∧ Hid (All (blkC PB (plP c (.slice a0 (n + 4) b0) (.slice a1 (n + 4) b1)) 27 :: spC (.slice a0 (n + 4) b0) s0 :: spC (.slice a1 (n + 4) b1) s1 :: cs) wx))
    case first =>
      go_wp2_with fail
      go_loopw [5] (fun iv wr => ∃ (i : Nat) (u0 u1 : Value) (s0 s1 : List Sp), i ≤ 2 ∧ iv = .int .i64 (i : Int) ∧ Hid ((∃ a b, u0 = .slice a (if 0 < i then n + 4 else n) b) ∧ Wp (if 0 < i then n + 4 else n) (if 0 < i then n + 4 else n) s0 z0S) ∧ Hid ((∃ a b, u1 = .slice a (if 1 < i then n + 4 else n) b) ∧ Wp (if 1 < i then n + 4 else n) (if 1 < i then n + 4 else n) s1 z1S) ∧ Hid (All (blkC PB (plP c u0 u1) 27 :: spC u0 s0 :: spC u1 s1 :: cs) wr)) (fun iv _ => 2 - (intOf iv).toNat)
      case atStart => exact ⟨0, _, _, s0, s1, by omega, rfl, B0, B1, K1⟩
      case round =>
        obtain ⟨i, u0, u1, s0, s1, hi, rfl, hU0, hU1, HA⟩ := hrel
        clear K1 B0 B1
        by_cases hlt : i < 2
        · obtain rfl | rfl : i = 0 ∨ i = 1 := by omega
          · clear hlt hi
            rw [show ((0 : Nat) : Int) = 0 from rfl]
            obtain ⟨⟨a0, b0, hu0⟩, hw0⟩ := hU0.out
            subst hu0
            clear hU0
            go_wp2_with fail
            go_loopw [6] (fun mv wr => ∃ (m : Nat) (a : Option Addr) (b : Nat) (t : List Sp), m ≤ 4 ∧ mv = .int .i64 (m : Int) ∧ Hid (Wp (n + m) (n + m) t z0S) ∧ Hid (All (blkC PB (plP c (.slice a (n + m) b) u1) 27 :: spC (.slice a (n + m) b) t :: spC u1 s1 :: cs) wr)) (fun mv _ => 4 - (intOf mv).toNat)
            case atStart => exact ⟨0, a0, b0, s0, by omega, rfl, hid hw0, HA⟩
            case round =>
              obtain ⟨m, a, b, t, hm, rfl, hT, HB⟩ := hrel
              clear HA hw0
              by_cases hml : m < 4
              · have hml' : (m : Int) < 4 := by omega
                obtain ⟨y, fy, hPB⟩ := blk_at HB.out (.head _) (PA.out _ _).1
                obtain ⟨a', b', w', hr, A3⟩ := app_sp (W := wr.alloc (.cells z0S.vals.toArray 43)) (K := wr.heap.size) (x := z0S) (l := t) (v := .slice a (n + m) b) (cs := blkC PB (plP c (.slice a (n + m) b) u1) 27 :: spC u1 s1 :: cs) ((HB.out.swap : All _ wr).alloc _) (heap_alloc_new wr _) (by rw [hT.out.1]; omega)
                rw [hT.out.1] at hr A3
                have ez : z0S.vals.toArray = #[.int .i64 (-1), .int .i64 0, .int .i64 0, .int .i64 0, .int .i64 0, .int .i64 0, .string ⟨#[]⟩, .string ⟨#[]⟩, .int .i64 0, .int .i64 0] := rfl
                rw [ez] at hr
                obtain ⟨t3, f3, _⟩ := blk_at A3 (.tail _ (.head _)) (PA.out _ _).1
                have A4 := hid (A3.swap.setBlk 10 (.slice a' (n + m + 1) b'))
                rw [(PS.out _ _ _).1] at A4
                have K4 := hid (A4.out)
                have HR := hid hr
                have nT := hid hT.out.add
                clear hr A3 A4 HB ez hT
                go_wp2_with (at_builtin; refine wpList_append_run rfl _ _ 25 rfl _ _ _ _ rfl rfl HR.out ?_)
                go_roundw
                case rel => exact ⟨m + 1, a', b', t ++ [z0S], by omega, by go_num, hid (by rw [← Nat.add_assoc]; exact nT.out), hid (by rw [← Nat.add_assoc]; exact K4.out)⟩
                case measure => simp [intOf]; omega
              · have hml' : ¬ (m : Int) < 4 := by omega
                have em : Hid (m = 4) := hid (by omega)
                go_wp2
                go_roundw
                case rel => exact ⟨1, .slice a (n + 4) b, u1, t, s1, by omega, rfl, hid ⟨⟨_, _, rfl⟩, by have := hT.out; rw [em.out] at this; exact this⟩, hU1, hid (by have := HB.out; rw [em.out] at this; exact this)⟩
                case measure => simp [intOf]
          · clear hlt hi
            rw [show ((1 : Nat) : Int) = 1 from rfl]
            obtain ⟨⟨a0, b0, hu0⟩, hw0⟩ := hU1.out
            subst hu0
            clear hU1
            go_wp2_with fail
            go_loopw [6] (fun mv wr => ∃ (m : Nat) (a : Option Addr) (b : Nat) (t : List Sp), m ≤ 4 ∧ mv = .int .i64 (m : Int) ∧ Hid (Wp (n + m) (n + m) t z1S) ∧ Hid (All (blkC PB (plP c u0 (.slice a (n + m) b)) 27 :: spC u0 s0 :: spC (.slice a (n + m) b) t :: cs) wr)) (fun mv _ => 4 - (intOf mv).toNat)
            case atStart => exact ⟨0, a0, b0, s1, by omega, rfl, hid hw0, HA⟩
            case round =>
              obtain ⟨m, a, b, t, hm, rfl, hT, HB⟩ := hrel
              clear HA hw0
              by_cases hml : m < 4
              · have hml' : (m : Int) < 4 := by omega
                obtain ⟨y, fy, hPB⟩ := blk_at HB.out (.head _) (PA.out _ _).2
                obtain ⟨a', b', w', hr, A3⟩ := app_sp (W := wr.alloc (.cells z1S.vals.toArray 43)) (K := wr.heap.size) (x := z1S) (l := t) (v := .slice a (n + m) b) (cs := blkC PB (plP c u0 (.slice a (n + m) b)) 27 :: spC u0 s0 :: cs) (((HB.out.perm (perm3a _ _ _ _)) : All _ wr).alloc _) (heap_alloc_new wr _) (by rw [hT.out.1]; omega)
                rw [hT.out.1] at hr A3
                have ez : z1S.vals.toArray = #[.int .i64 (-2), .int .i64 0, .int .i64 0, .int .i64 0, .int .i64 0, .int .i64 0, .string ⟨#[]⟩, .string ⟨#[]⟩, .int .i64 0, .int .i64 0] := rfl
                rw [ez] at hr
                obtain ⟨t3, f3, _⟩ := blk_at A3 (.tail _ (.head _)) (PA.out _ _).2
                have A4 := hid (A3.swap.setBlk 21 (.slice a' (n + m + 1) b'))
                rw [(PS.out _ _ _).2] at A4
                have K4 := hid (A4.out.perm (perm3c _ _ _ _))
                have HR := hid hr
                have nT := hid hT.out.add
                clear hr A3 A4 HB ez hT
                go_wp2_with (at_builtin; refine wpList_append_run rfl _ _ 25 rfl _ _ _ _ rfl rfl HR.out ?_)
                go_roundw
                case rel => exact ⟨m + 1, a', b', t ++ [z1S], by omega, by go_num, hid (by rw [← Nat.add_assoc]; exact nT.out), hid (by rw [← Nat.add_assoc]; exact K4.out)⟩
                case measure => simp [intOf]; omega
              · have hml' : ¬ (m : Int) < 4 := by omega
                have em : Hid (m = 4) := hid (by omega)
                go_wp2
                go_roundw
                case rel => exact ⟨2, u0, .slice a (n + 4) b, s0, t, by omega, rfl, hU0, hid ⟨⟨_, _, rfl⟩, by have := hT.out; rw [em.out] at this; exact this⟩, hid (by have := HB.out; rw [em.out] at this; exact this)⟩
                case measure => simp [intOf]
        · have hlt' : ¬ (i : Int) < 2 := by omega
          obtain rfl : i = 2 := by omega
          clear hlt hi
          obtain ⟨⟨a0, b0, e0⟩, w0⟩ := hU0.out
          obtain ⟨⟨a1, b1, e1⟩, w1⟩ := hU1.out
          simp only [Nat.reduceLT, if_true] at e0 w0 e1 w1
          subst e0 e1
          have W0 := hid w0
          have W1 := hid w1
          clear w0 w1 hU0 hU1
          go_wp2
          go_meet
          exact ⟨a0, b0, a1, b1, s0, s1, W0, W1, HA⟩
    case rest =>
      obtain ⟨a0, b0, a1, b1, s0, s1, hW0, hW1, K2⟩ := hcut
      clear K1 B0 B1
      have hn4 : n + 4 ≤ 4004 := by omega
      generalize n + 4 = n4 at *
      go_upto_block 8 with fail
      go_wp2_with fail
      go_loopw [7] (fun iv wr => ∃ (i : Nat), i ≤ 2 ∧ iv = .int .i64 (i : Int) ∧ Hid (All (blkC PB (plP c (.slice a0 n4 b0) (.slice a1 n4 b1)) 27 :: spC (.slice a0 n4 b0) s0 :: spC (.slice a1 n4 b1) s1 :: cs) wr)) (fun iv _ => 2 - (intOf iv).toNat)
      case atStart => exact ⟨0, by omega, rfl, K2⟩
      case round =>
        obtain ⟨i, hi, rfl, HA⟩ := hrel
        clear K2
        by_cases hlt : i < 2
        · obtain rfl | rfl : i = 0 ∨ i = 1 := by omega
          · clear hlt hi
            rw [show ((0 : Nat) : Int) = 0 from rfl]
            go_wp2_with fail
            go_loopw [8] (fun kv wr => ∃ (k : Nat), k ≤ n4 ∧ kv = .int .i64 (k : Int) ∧ Hid (All (blkC PB (plP c (.slice a0 n4 b0) (.slice a1 n4 b1)) 27 :: spC (.slice a0 n4 b0) s0 :: spC (.slice a1 n4 b1) s1 :: cs) wr)) (fun kv _ => n4 - (intOf kv).toNat)
            case atStart => exact ⟨0, Nat.zero_le _, rfl, HA⟩
            case round =>
              obtain ⟨k, hk, rfl, HB⟩ := hrel
              clear HA
              have y := (blk_at HB.out (.head _) (PA.out _ _).1).1
              by_cases hkl : k < n4
              · have hkl' : (k : Int) < (n4 : Int) := by omega
                obtain ⟨g, o, eg, _, rg⟩ := (sps_mem HB.out (.tail _ (.head _))).at (hW0.out.2 k hkl)
                subst eg
                have c0 := (ten_cells rg).1
                clear rg
                go_wp2
                go_roundw
                case rel => exact ⟨k + 1, by omega, by go_num, HB⟩
                case measure => simp [intOf]; omega
              · have hkl' : ¬ (k : Int) < (n4 : Int) := by omega
                go_wp2
                go_roundw
                case rel => exact ⟨1, by omega, rfl, HB⟩
                case measure => simp [intOf]
          · clear hlt hi
            rw [show ((1 : Nat) : Int) = 1 from rfl]
            go_wp2_with fail
            go_loopw [8] (fun kv wr => ∃ (k : Nat), k ≤ n4 ∧ kv = .int .i64 (k : Int) ∧ Hid (All (blkC PB (plP c (.slice a0 n4 b0) (.slice a1 n4 b1)) 27 :: spC (.slice a0 n4 b0) s0 :: spC (.slice a1 n4 b1) s1 :: cs) wr)) (fun kv _ => n4 - (intOf kv).toNat)
            case atStart => exact ⟨0, Nat.zero_le _, rfl, HA⟩
            case round =>
              obtain ⟨k, hk, rfl, HB⟩ := hrel
              clear HA
              have y := (blk_at HB.out (.head _) (PA.out _ _).2).1
              by_cases hkl : k < n4
              · have hkl' : (k : Int) < (n4 : Int) := by omega
                obtain ⟨g, o, eg, _, rg⟩ := (sps_mem HB.out (.tail _ (.tail _ (.head _)))).at (hW1.out.2 k hkl)
                subst eg
                have c0 := (ten_cells rg).1
                clear rg
                go_wp2
                go_roundw
                case rel => exact ⟨k + 1, by omega, by go_num, HB⟩
                case measure => simp [intOf]; omega
              · have hkl' : ¬ (k : Int) < (n4 : Int) := by omega
                go_wp2
                go_roundw
                case rel => exact ⟨2, by omega, rfl, HB⟩
                case measure => simp [intOf]
        · have hlt' : ¬ (i : Int) < 2 := by omega
          obtain rfl : i = 2 := by omega
          clear hlt hi
          go_wp2
          go_ret
          exact ⟨rfl, HA.out.tail.tail.tail⟩
end Go.Proofs.YtblojlaifnmimaaGreatDoor
