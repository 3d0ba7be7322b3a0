import Derived.Test.YtdndfbgjaadbmaaWrite
namespace Go.Proofs.Ytdndfbgjaadbmaa
open Go.RowKit
set_option linter.unusedVariables false

theorem conv_below (w : World) (s : ByteArray) (cap : Nat) (fr : Nat × Nat) : Below w.heap.size w (w.alloc (.cells (bytesRow s cap) 5 fr)).drew := ((Below.refl _ _).alloc (Nat.le_refl _) _).drew

theorem lent_at {w : World} {s : Value} {l : List UInt8} (h : Reads w s l) (L n : Nat) (hL : w.heap.size = L) (hn : l.length = n) (hlen : n ≤ 140737488350000) :
    Calls Try.prog 19 #[s] w fun e w' => e = .returned (.slice (some ⟨L, 0, none⟩) (n + 8) (n + 8)) ∧ w'.ownsRow w.heap.size 5 1 (.slice (some ⟨L, 0, none⟩) (n + 8) (n + 8)) (behind l 8).length (cellsB (behind l 8)) ∧ Below w.heap.size w w' := by
  subst hL hn
  exact lent_any h hlen

theorem lent_reads {w : World} {L n : Nat} {l : List UInt8} (h : w.ownsRow 0 5 1 (.slice (some ⟨L, 0, none⟩) (n + 8) (n + 8)) (behind l 8).length (cellsB (behind l 8))) (hn : l.length = n) : Reads w (.slice (some ⟨L, 0, none⟩) n (n + 8)) l := by
  subst hn
  refine ⟨_, _, rfl, by omega, Or.inr ⟨L, 0, rfl, (World.ownsRow.lt h L rfl).2, fun j u hu => ?_⟩⟩
  have := World.ownsRow.cells h (g := L) rfl j u (by
    unfold behind
    rw [cellsB_append, List.getElem?_append_left (List.getElem?_eq_some_iff.1 hu).1]
    exact hu)
  simpa [Addr.add_lit] using this

theorem lent_reads_all {w : World} {L n : Nat} {l : List UInt8} (h : w.ownsRow 0 5 1 (.slice (some ⟨L, 0, none⟩) (n + 8) (n + 8)) (behind l 8).length (cellsB (behind l 8))) (hn : l.length = n) : Reads w (.slice (some ⟨L, 0, none⟩) (n + 8) (n + 8)) (behind l 8) := Reads.of_owns h

section
variable {w w1 w2 : World} {b x H L n : Nat} {v vx v1 v2 : Value} {st st1 : Option (List UInt8)} {cs : List Comp} {it : It} {l ll : List UInt8}

/-- The parts while a list is written that was lent. -/
def lentCs (L n : Nat) (ll : List UInt8) (b : Nat) (v : Value) (st : Option (List UInt8)) (x : Nat) (vx : Value) (stx : Option (List UInt8)) (H : Nat) (it : It) (cs : List Comp) : List Comp :=
  rowC (.slice (some ⟨L, 0, none⟩) (n + 8) (n + 8)) ll :: wrC b v st :: xwC x vx stx :: itC H it :: cs

theorem lentCs.item {stx : Option (List UInt8)} (h : All (lentCs L n ll b v st x vx stx H it cs) w) : w.cell? ⟨H, 3, none⟩ = some (.string it.s) := by
  have hh : w.heap[H]? = some (.cells #[.int .i64 it.kind, .int .i64 it.n, .bool it.v, .string it.s] 35 (0, 0)) := h.2.2.2.2.2.2.1.2.1
  rw [cell_at hh]; rfl

theorem lentCs.apart {stx : Option (List UInt8)} (h : All (lentCs L n ll b v st x vx stx H it cs) w) : ∀ k, Value.ownBlock (.slice (some ⟨L, 0, none⟩) n (n + 8)) = some k → k ≠ b ∧ v.ownBlock ≠ some k := by
  intro k hk
  have hkL : L = k := by simpa [Value.ownBlock] using hk
  subst hkL
  have hd := h.2.1 (wrC b v st) (by simp) L (by simp [rowC, Value.ownBlock])
  simp [wrC] at hd
  exact ⟨hd.1, fun e => hd.2 e⟩

theorem lentCs.wrote {stx : Option (List UInt8)} (h : All (lentCs L n ll b v st x vx stx H it cs) w) (h1 : Wst w1 b v1 st1) (s1 : WStep b w v w1 v1) : All (lentCs L n ll b v1 st1 x vx stx H it cs) w1 :=
  ((h.swap).wrote s1 h1).swap

theorem lentCs.xwrote {stx : Option (List UInt8)} (h : All (lentCs L n ll b v st x vx stx H it cs) w) (h1 : Xst w1 x v1 st1) (s1 : WStep x w vx w1 v1) : All (lentCs L n ll b v st x v1 st1 H it cs) w1 := by
  have p : (lentCs L n ll b v st x vx stx H it cs).Perm (xwC x vx stx :: rowC (.slice (some ⟨L, 0, none⟩) (n + 8) (n + 8)) ll :: wrC b v st :: itC H it :: cs) := List.perm_middle (a := xwC x vx stx) (l₁ := [rowC (.slice (some ⟨L, 0, none⟩) (n + 8) (n + 8)) ll, wrC b v st])
  have p2 : (xwC x v1 st1 :: rowC (.slice (some ⟨L, 0, none⟩) (n + 8) (n + 8)) ll :: wrC b v st :: itC H it :: cs).Perm (lentCs L n ll b v st x v1 st1 H it cs) := (List.perm_middle (a := xwC x v1 st1) (l₁ := [rowC (.slice (some ⟨L, 0, none⟩) (n + 8) (n + 8)) ll, wrC b v st])).symm
  exact ((h.perm p).xwrote s1 h1).perm p2

theorem lentCs.wst {stx : Option (List UInt8)} (h : All (lentCs L n ll b v st x vx stx H it cs) w) : Wst w b v st := h.2.2.1.2.1
theorem lentCs.xst {stx : Option (List UInt8)} (h : All (lentCs L n ll b v st x vx stx H it cs) w) : Xst w x vx stx := h.2.2.2.2.1.2.1
theorem lentCs.row {stx : Option (List UInt8)} (h : All (lentCs L n ll b v st x vx stx H it cs) w) : w.ownsRow 0 5 1 (.slice (some ⟨L, 0, none⟩) (n + 8) (n + 8)) ll.length (cellsB ll) := h.1.2.1

theorem lentCs.at {stx : Option (List UInt8)} (h : All (lentCs L n ll b v st x vx stx H it cs) w) (k : Nat) (hl : ll.length = n + 8) (hk : k < n + 8) : (∃ u, w.cell? ⟨L, k, none⟩ = some u) ∧ w.frozen? ⟨L, k, none⟩ = false := by
  have hr := lentCs.row h
  have hk : k < ll.length := by omega
  rw [← hl] at hr
  refine ⟨⟨.int .u8 ((ll[k]).toNat : Int), ?_⟩, World.ownsRow.frozenAt hr k⟩
  have := World.ownsRow.cells hr (g := L) rfl k (.int .u8 ((ll[k]).toNat : Int)) (by simp [cellsB, hk])
  simpa [Addr.add_lit] using this

theorem lentCs.ends {stx : Option (List UInt8)} (h : All (lentCs L n ll b v st x vx stx H it cs) w) : All (wrC b v st :: xwC x vx stx :: cs) w :=
  (h.tail.perm (List.perm_middle (a := itC H it) (l₁ := [wrC b v st, xwC x vx stx]))).tail
end

set_option maxHeartbeats 3200000 in
set_option maxRecDepth 1000000 in
theorem write_bytes {w : World} {b x : Nat} {v vx : Value} {st : Option (List UInt8)} {cs : List Comp} {n : Int} {bb : Bool} {s : ByteArray} (h : All (wrC b v st :: xwC x vx st :: cs) w) (hlen : lenS st + s.size ≤ 100000000000000) :
    Calls Try.prog 12 #[.pointer (some ⟨b, 0, none⟩), .pointer (some ⟨x, 0, none⟩), .agg #[.int .i64 5, .int .i64 n, .bool bb, .string s]] w fun e w' => e = .returned (.bool true) ∧ ∃ v' vx', All (wrC b v' (addS st (enc 9 s.size ++ s.data.toList)) :: xwC x vx' (addS st (enc 9 s.size ++ s.data.toList)) :: cs) w' := by
  have A0 := hid ((h.addItem ⟨5, n, bb, s⟩).perm ((List.perm_middle (a := itC w.heap.size ⟨5, n, bb, s⟩) (l₁ := [wrC b v st, xwC x vx st])).symm))
  clear h
  have hcv := fun w s => run_bytes_of_string (P := Try.prog) w 9 37 5 s Try.underlying9 Try.underlying37 Try.underlying5
  obtain ⟨L, hL⟩ : ∃ L, w.heap.size + 1 + 1 = L := ⟨_, rfl⟩
  have HL := hid hL
  clear hL
  have hsl := fun w => cut_run L 0 s.size (s.size + 8) (s.size + 8) (by omega) (by omega) w
  have hls : s.data.toList.length = s.size := rfl
  have HLS := hid hls
  clear hls
  go_enter Try.func12, Try.ntmps12
  go_wp2_with fail
  refine (lent_at (Reads.ofString2 (w.alloc (.cells #[.int .i64 5, .int .i64 n, .bool bb, .string s] 35)) s _ _ (w.heap.size + 1) (by simp) (grownCap_ge _ _ _ _)) L s.size (by have := HL.out; simp; omega) HLS.out (by omega)).mono ?_
  rintro e w2 ⟨rfl, h1, h2⟩
  have A2 : Hid (All (lentCs L s.size (behind s.data.toList 8) b v st x vx st w.heap.size ⟨5, n, bb, s⟩ cs) w2) := (A0.out.later (conv_below _ _ _ _)).addRow h2 h1
  have c2 := lentCs.item A2.out
  clear h1 h2 A0
  go_wp2_with fail
  refine (bytes_any (lentCs.wst A2.out) (lent_reads (lentCs.row A2.out) HLS.out) (lentCs.apart A2.out) (by rw [HLS.out]; omega)).mono ?_
  rintro e w3 ⟨rfl, v3, h1, h2⟩
  have A3 := hid (lentCs.wrote A2.out h1 h2)
  have c3 := lentCs.item A3.out
  clear h1 h2 A2 c2
  go_wp2_with fail
  refine (xbytes_any ((lentCs.xst A3.out).below (conv_below _ _ _ _)) (Reads.ofString w3 s _ _ (grownCap_ge _ _ _ _)) ?_ (by rw [HLS.out]; omega)).mono ?_
  · intro k hk
    have hk' : w3.heap.size = k := by simpa [Value.ownBlock] using hk
    subst hk'
    have q1 := (lentCs.xst A3.out).lt
    refine ⟨by omega, fun e => ?_⟩
    have := ((lentCs.xst A3.out).own_lt _ e).2
    omega
  rintro e w4 ⟨rfl, v4, h1, h2⟩
  have A4 := hid (lentCs.xwrote A3.out h1 ((WStep.of_below (conv_below _ _ _ _)).trans h2))
  have c4 := lentCs.item A4.out
  clear h1 h2 A3 c3
  go_wp2_with fail
  refine (still_any ((lent_reads_all (lentCs.row A4.out) HLS.out).below (conv_below _ _ _ _)) (Reads.ofString w4 s _ _ (grownCap_ge _ _ _ _)) (by rw [HLS.out]; omega)).mono ?_
  rintro e w5 ⟨rfl, q, rfl⟩
  have A5 := hid ((A4.out.later (conv_below w4 s (grownCap w4 s.size 0 5) ((bytesRow s (grownCap w4 s.size 0 5)).size, (bytesRow s (grownCap w4 s.size 0 5)).size + 1))).kept (F := []) (w' := ((w4.alloc (.cells (bytesRow s (grownCap w4 s.size 0 5)) 5 ((bytesRow s (grownCap w4 s.size 0 5)).size, (bytesRow s (grownCap w4 s.size 0 5)).size + 1))).drew.drewN q)) ⟨rfl, rfl, rfl, Nat.le_refl _, fun _ _ _ => rfl⟩ (fun d _ k hk => by cases hk))
  clear A4 c4
  generalize ((w4.alloc (.cells (bytesRow s (grownCap w4 s.size 0 5)) 5 ((bytesRow s (grownCap w4 s.size 0 5)).size, (bytesRow s (grownCap w4 s.size 0 5)).size + 1))).drew.drewN q) = w6 at A5 ⊢
  go_wp2
  go_loopw [9] (fun iv wr => ∃ (k : Nat) (ll : List UInt8), k ≤ s.size + 8 ∧ iv = .int .i64 (k : Int) ∧ Hid (ll.length = s.size + 8 ∧ All (lentCs L s.size ll b v3 (addS st (enc 9 s.data.toList.length ++ s.data.toList)) x v4 (addS st (enc 9 s.data.toList.length ++ s.data.toList)) w.heap.size ⟨5, n, bb, s⟩ cs) wr)) (fun iv _ => s.size + 8 - (intOf iv).toNat)
  case atStart => exact ⟨0, behind s.data.toList 8, by omega, rfl, by rw [behind_len]; rfl, A5.out⟩
  case round =>
    obtain ⟨k, ll, hk, rfl, hrel⟩ := hrel
    by_cases hlt : k < s.size + 8
    · obtain ⟨⟨u, q0⟩, q1⟩ := lentCs.at hrel.out.2 k hrel.out.1 hlt
      have R := hid (hrel.out.2.row_set (k := k) 90 hrel.out.1.symm)
      have RL := hid hrel.out.1
      clear hrel A5
      go_wp2
      go_roundw
      case rel => exact ⟨k + 1, ll.set k 90, by omega, by go_num, by rw [List.length_set]; exact RL.out, R.out⟩
      case measure => simp [intOf]; omega
    · have R := hid (lentCs.ends hrel.out.2)
      rw [HLS.out] at R
      clear hrel A5
      go_wp2
      go_ret
      exact ⟨rfl, v3, v4, R.out⟩

theorem write_any {w : World} {b x : Nat} {v vx : Value} {st : Option (List UInt8)} {cs : List Comp} {it : It} (h : All (wrC b v st :: xwC x vx st :: cs) w) (hit : it.Ok) (hlen : lenS st + it.s.size ≤ 100000000000000) :
    Calls Try.prog 12 #[.pointer (some ⟨b, 0, none⟩), .pointer (some ⟨x, 0, none⟩), .agg #[.int .i64 it.kind, .int .i64 it.n, .bool it.v, .string it.s]] w fun e w' => e = .returned (.bool true) ∧ ∃ v' vx', All (wrC b v' (wS st it) :: xwC x vx' (wS st it) :: cs) w' := by
  by_cases hk : it.kind = 5
  · have e : wS st it = addS st (enc 9 it.s.size ++ it.s.data.toList) := by simp [wS, hk]
    rw [e, hk]
    exact write_bytes h hlen
  · exact write_plain h hit hlen hk

end Go.Proofs.Ytdndfbgjaadbmaa
