import Derived.Test.YtmpbdncgilahkaaItS
import Derived.Test.YtmpbdncgilahkaaCntI
namespace Go.Proofs.Ytmpbdncgilahkaa
open Go.RowKit Go.Shelf
attribute [local go_sem] Oper.semAt_some
set_option linter.unusedVariables false

theorem AllS {w : World} (P : Nat) : Calls Try.prog 55 #[.pointer (some ⟨P, 0, none⟩)] w fun e w' => e = .returned (.func (.func 61) #[] #[.pointer (some ⟨w.heap.size, 0, none⟩)]) ∧ w' = w.alloc (.cells #[.pointer (some ⟨P, 0, none⟩)] 39) := by
  go_enter Try.func55, Try.ntmps55
  go_wp2
  go_ret
  exact ⟨rfl, rfl⟩

theorem stopsS {w : World} {Bn P n : Nat} {m : Int} {ws : List (Option ByteArray)} (hn : 1 ≤ n) (hBn : Bn < w.heap.size) (hc : w.cell? ⟨Bn, 0, none⟩ = some (.pointer (some ⟨P, 0, none⟩))) (hT : TalS w P m ws) :
    SeqStopsK Fence.wide n Try.prog 61 #[.pointer (some ⟨Bn, 0, none⟩)] (fun x : Int × ByteArray => #[.int .i64 x.1, encS x.2]) (fun _ _ => True) (fun ys => ys = said 0 ws) (fun pre => pre <+: said 0 ws) (said 0 ws).length w := fun l J Jx W hW hJ hJx hY h0 =>
  itS n hn l Bn P m ws J Jx W hJ hJx hY ((hW.cell (p := ⟨Bn, 0, none⟩) hBn).trans hc) (hT.keep (hW.block P hT.lt)) h0

set_option maxRecDepth 1000000 in
set_option maxHeartbeats 1000000 in
theorem CountS {w : World} {P : Nat} {m : Int} {ws : List (Option ByteArray)} (hT : TalS w P m ws) : Calls Try.prog 49 #[.pointer (some ⟨P, 0, none⟩)] w fun e w' => e = .returned (.int .i64 (said 0 ws).length) ∧ Below w.heap.size w w' := by
  have hl7 := said_len 0 ws
  rw [hT.len] at hl7
  refine (callsIn_wide (n := 3)).1 ?_
  refine callsIn_of_wp_marks Try.func49 rfl trivial ?_ rfl
  simp only [Try.ntmps49, List.size_toArray, List.length_cons, List.length_nil, Nat.reduceAdd, Nat.reduceSub, Array.replicate_succ, Array.replicate_zero, List.push_toArray, List.append_toArray, List.nil_append, List.cons_append]
  have T1 := hid hT
  clear hT
  gi_wp2
  refine ⟨trivial, (callsIn_wide.2 (AllS P)).mono ?_⟩
  rintro e w' ⟨rfl, rfl⟩
  gi_wp2
  have bC := (Boxed.new w 3 (.int .i64 0)).alloc (.cells #[.pointer (some ⟨P, 0, none⟩)] 39)
  have bN := Boxed.new (w.alloc (.cells #[.int .i64 0] 3)) 39 (.pointer (some ⟨P, 0, none⟩))
  simp only [World.size_alloc] at bC bN
  have hB0 : Below w.heap.size w ((w.alloc (.cells #[.int .i64 0] 3)).alloc (.cells #[.pointer (some ⟨P, 0, none⟩)] 39)) := ((Below.refl _ w).alloc (Nat.le_refl _) _).alloc (by simp) _
  refine wpIn_rangeFunc_ownG rfl (by omega) (gf := 61) (lb := #[.pointer (some ⟨w.heap.size + 1, 0, none⟩)]) rfl trivial (enters_of Try.func61 (by kernel_rfl) rfl)
    (stopsS (n := 3 - 1) (by omega) (by simp) bN.cell (T1.out.keep (hB0.block P T1.out.lt))) (fun _ _ => trivial) (fun _ _ _ _ _ _ _ _ => trivial) (Below.refl _ _) (fun _ => rfl)
    (fun pre W => Boxed W w.heap.size 3 (.int .i64 pre.length) ∧ Below w.heap.size w W) (fun _ _ _ => False)
    (OwnFrom.and (boxed_own _ _ _ (fun s : List (Int × ByteArray) => .int .i64 s.length)) (ownFrom_below (Nat.le_refl _) (by simp; omega)))
    (fun _ _ _ _ _ hs _ _ => hs)
    ⟨bC, hB0⟩
    (fun x => { tmps := #[.pointer (some ⟨P, 0, none⟩), undef, .int .i64 0, .pointer (some ⟨w.heap.size, 0, none⟩), .pointer (some ⟨P, 0, none⟩), .func (.func 61) #[] #[.pointer (some ⟨w.heap.size + 1, 0, none⟩)], .int .i64 x.1, encS x.2, undef, undef, undef], defers := [] }) ?assign ?body ?done ?stop
  case assign =>
    intro l x W K hK
    gi_wp2
    simpa [List.zip_toArray] using hK
  case body =>
    rintro l pre x W ⟨hc, hB⟩ hlt
    have c0 := hc.cell
    have f0 := hc.frozen
    have hp7 : (pre.length : Int) < 7 := by omega
    have HC := hid hc
    have HB := hid hB
    clear hc hB T1 bC bN hB0
    gi_wp2
    refine ⟨(KeepsOthers.setCell _ _ _).from _, trivial, ?_, HB.out.setCell (p := ⟨w.heap.size, 0, none⟩) (Nat.le_refl _) _⟩
    rw [List.length_append]
    exact HC.out.set _
  case done =>
    rintro D ys W hD rfl ⟨hc, hB⟩ hK
    have c0 := hc.cell
    have HB := hid hB
    have HK := hid hK
    clear hc hB hK T1 bC bN hB0
    gi_wp2
    refine ⟨by simp, .inl ⟨_, _, rfl, run_takeDeferred HK.out, ?_⟩⟩
    exact ⟨_, results_tmp rfl _ _ _, rfl, HB.out.trans (belowK_b (w := w) (Nat.le_refl _) W D _ _ (by simp at hD; omega) HK.out rfl rfl)⟩
  case stop =>
    rintro D c pre W _ _ h _
    exact h.elim
end Go.Proofs.Ytmpbdncgilahkaa
