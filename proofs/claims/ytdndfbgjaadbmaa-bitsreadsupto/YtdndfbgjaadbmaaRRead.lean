import Derived.Test.YtdndfbgjaadbmaaRComp
import Derived.Test.YtdndfbgjaadbmaaXR5
import Derived.Test.YtdndfbgjaadbmaaLentW
import Derived.Test.YtdndfbgjaadbmaaItems2
namespace Go.Proofs.Ytdndfbgjaadbmaa
open Go.RowKit
set_option linter.unusedVariables false

/-- What read needs: an item, the two readers, the shelf. -/
def rdM (H : Nat) (it : It) (S : Nat) (ov wv : Value) (es : List En) (b : Nat) (D : Option Nat) (rv : Value) (x : Nat) (v : Value) (B rs : List UInt8) (place : Nat) (err : Int) (cs : List Comp) : List Comp :=
  Cn S ov wv es (prC b D rv rs place err :: xrC x v B rs place err :: itC H it :: cs)

/-- What read leaves. -/
def RdEnd (S : Nat) (es : List En) (b : Nat) (D : Option Nat) (x : Nat) (v : Value) (B : List UInt8) (cs : List Comp) (w : World) : Prop :=
  ∃ ov wv es' rv rs place err, es'.length ≤ es.length + 1 ∧ (∀ e ∈ es', e ∈ es ∨ (e.la = e.lm ∧ e.la.length ≤ B.length)) ∧ All (Cn S ov wv es' (prC b D rv rs place err :: xrC x v B rs place err :: cs)) w

section
variable {w w1 w2 : World} {H S b x : Nat} {ov wv rv rv' v : Value} {es : List En} {D : Option Nat} {B rs rs1 : List UInt8} {place place1 : Nat} {err err1 : Int} {cs : List Comp} {it : It}

theorem rdM.rd (h : All (rdM H it S ov wv es b D rv x v B rs place err cs) w) : Rd w b D rv rs place err :=
  (h.mem (c := prC b D rv rs place err) (by simp [rdM, Cn])).2.1
theorem rdM.xr (h : All (rdM H it S ov wv es b D rv x v B rs place err cs) w) : XRd w x v B rs place err :=
  (h.mem (c := xrC x v B rs place err) (by simp [rdM, Cn])).2.1

/-- Between the two. -/
def rdB (H : Nat) (it : It) (S : Nat) (ov wv : Value) (es : List En) (b : Nat) (D : Option Nat) (rv : Value) (rs1 : List UInt8) (place1 : Nat) (err1 : Int) (x : Nat) (v : Value) (B rs : List UInt8) (place : Nat) (err : Int) (cs : List Comp) : List Comp :=
  xrC x v B rs place err :: prC b D rv rs1 place1 err1 :: Cn S ov wv es (itC H it :: cs)

theorem rdM.front (h : All (rdM H it S ov wv es b D rv x v B rs place err cs) w) : All (prC b D rv rs place err :: xrC x v B rs place err :: Cn S ov wv es (itC H it :: cs)) w :=
  All.perm (List.Perm.cons _ (Cn_perm _ _ _ _ _ _)) (Cn.out h)

theorem rdM.first (h : All (rdM H it S ov wv es b D rv x v B rs place err cs) w) (hr : Rd w1 b D rv' rs1 place1 err1) (ho : Only b w w1) : All (rdB H it S ov wv es b D rv' rs1 place1 err1 x v B rs place err cs) w1 :=
  ((rdM.front h).rd hr ho).swap

theorem rdB.xr (h : All (rdB H it S ov wv es b D rv rs1 place1 err1 x v B rs place err cs) w) : XRd w x v B rs place err := h.1.2.1

theorem rdB.second (h : All (rdB H it S ov wv es b D rv rs1 place1 err1 x v B rs place err cs) w) (hr : XRd w1 x v B rs1 place1 err1) (ho : Only x w w1) : All (Cn S ov wv es (prC b D rv rs1 place1 err1 :: xrC x v B rs1 place1 err1 :: cs)) w1 := by
  have h1 := (h.xr hr ho).swap
  have h2 : All (Cn S ov wv es (itC H it :: xrC x v B rs1 place1 err1 :: prC b D rv rs1 place1 err1 :: cs)) w1 := by
    refine All.perm ?_ h1
    refine List.Perm.trans (List.Perm.swap _ _ _) ?_
    refine List.Perm.trans (List.Perm.cons _ (Cn_perm S ov wv es (prC b D rv rs1 place1 err1) (itC H it :: cs)).symm) ?_
    refine List.Perm.trans (Cn_perm S ov wv es (xrC x v B rs1 place1 err1) (prC b D rv rs1 place1 err1 :: itC H it :: cs)).symm ?_
    exact List.Perm.cons _ (List.Perm.cons _ (List.Perm.cons _ (List.Perm.append_left _ (List.perm_middle (a := itC H it) (l₁ := [xrC x v B rs1 place1 err1, prC b D rv rs1 place1 err1])))))
  exact Cn.perm (Cn.out h2).tail (List.Perm.swap _ _ _)

theorem itC.cell (h : w.heap[H]? = some (.cells #[.int .i64 it.kind, .int .i64 it.n, .bool it.v, .string it.s] 35 (0, 0))) : w.cell? ⟨H, 0, none⟩ = some (.int .i64 it.kind) ∧ w.cell? ⟨H, 1, none⟩ = some (.int .i64 it.n) := by
  rw [cell_at h, cell_at h]
  exact ⟨rfl, rfl⟩
theorem rdM.item (h : All (rdM H it S ov wv es b D rv x v B rs place err cs) w) : w.cell? ⟨H, 0, none⟩ = some (.int .i64 it.kind) ∧ w.cell? ⟨H, 1, none⟩ = some (.int .i64 it.n) :=
  itC.cell (h.mem (c := itC H it) (by simp [rdM, Cn])).2.1
theorem rdB.item (h : All (rdB H it S ov wv es b D rv rs1 place1 err1 x v B rs place err cs) w) : w.cell? ⟨H, 0, none⟩ = some (.int .i64 it.kind) ∧ w.cell? ⟨H, 1, none⟩ = some (.int .i64 it.n) :=
  itC.cell (h.mem (c := itC H it) (by simp [rdB, Cn])).2.1

theorem RdEnd.of (h : All (Cn S ov wv es (prC b D rv rs place err :: xrC x v B rs place err :: cs)) w) : RdEnd S es b D x v B cs w := ⟨ov, wv, es, rv, rs, place, err, by omega, fun e he => Or.inl he, h⟩

/-- At the head of read. -/
theorem rdM.made (h : All (Cn S ov wv es (prC b D rv rs place err :: xrC x v B rs place err :: cs)) w) (it : It) : All (rdM w.heap.size it S ov wv es b D rv x v B rs place err cs) (w.alloc (.cells #[.int .i64 it.kind, .int .i64 it.n, .bool it.v, .string it.s] 35)) :=
  Cn.perm (Cn.in_ (h.addItem it)) ((List.perm_middle (a := itC w.heap.size it) (l₁ := [prC b D rv rs place err, xrC x v B rs place err])).symm)

theorem rdM.done (h : All (rdM H it S ov wv es b D rv x v B rs place err cs) w) : All (Cn S ov wv es (prC b D rv rs place err :: xrC x v B rs place err :: cs)) w :=
  (Cn.out (Cn.perm h (List.perm_middle (a := itC H it) (l₁ := [prC b D rv rs place err, xrC x v B rs place err])))).tail
end

set_option maxHeartbeats 3200000 in
set_option maxRecDepth 1000000 in
theorem read_plain {w : World} {S b x : Nat} {ov wv rv v : Value} {es : List En} {D : Option Nat} {B rs : List UInt8} {place : Nat} {err : Int} {cs : List Comp} {it : It} (h : All (Cn S ov wv es (prC b D rv rs place err :: xrC x v B rs place err :: cs)) w) (hit : it.Ok) (hlen : B.length ≤ 140737488355328) (hk : it.kind ≠ 5) :
    Calls Try.prog 23 #[.pointer (some ⟨b, 0, none⟩), .pointer (some ⟨x, 0, none⟩), .agg #[.int .i64 it.kind, .int .i64 it.n, .bool it.v, .string it.s], .pointer (some ⟨S, 0, none⟩)] w fun e w' => e = .returned (.bool true) ∧ RdEnd S es b D x v B cs w' := by
  have A0 := hid (rdM.made h it)
  obtain ⟨_, hn1, hn2⟩ := hit
  have hroom := (rdM.xr A0.out).room
  clear h
  obtain ⟨k, n, bb, s⟩ := it
  simp only at hk hn1 hn2 ⊢
  by_cases h1 : k = 1
  · subst h1
    have c0 := (rdM.item A0.out).2
    have B0 := hid A0.out.drew
    clear A0 hn1 hn2
    go_enter Try.func23, Try.ntmps23
    go_wp2_with fail
    go_region_law (go_simp; first | (go_at_call 33; refine (Num_any (rdM.rd B0.out) (by omega) n).mono ?_; rintro e w1 ⟨rfl, ⟨rv1, q1⟩, q2⟩; have A1 := hid (rdM.first B0.out q1 q2); have c1 := (rdB.item A1.out).2; clear q1 q2) | (go_at_call 47; refine (xNum_any (rdB.xr A1.out) (by omega) n).mono ?_; rintro e w2 ⟨rfl, q1, q2⟩; have A2 := hid (rdB.second A1.out q1 q2); clear q1 q2 A1))
    all_goals go_wp2
    all_goals go_ret
    all_goals exact ⟨rfl, RdEnd.of A2.out⟩
  by_cases h2 : k = 2
  · subst h2
    clear hn1 hn2
    go_enter Try.func23, Try.ntmps23
    go_wp2_with fail
    refine (Signed_any (rdM.rd A0.out) (by omega)).mono ?_
    rintro e w1 ⟨rfl, ⟨rv1, q1⟩, q2⟩
    have A1 := hid (rdM.first A0.out q1 q2)
    clear q1 q2 A0
    go_wp2_with fail
    refine (xSigned_any (rdB.xr A1.out) (by omega)).mono ?_
    rintro e w2 ⟨rfl, q1, q2⟩
    have A2 := hid (rdB.second A1.out q1 q2)
    clear q1 q2 A1
    go_wp2
    go_ret
    exact ⟨rfl, RdEnd.of A2.out⟩
  by_cases h3 : k = 3
  · subst h3
    clear hn1 hn2
    go_enter Try.func23, Try.ntmps23
    go_wp2_with fail
    refine (Bool_any (rdM.rd A0.out) (by omega)).mono ?_
    rintro e w1 ⟨rfl, ⟨rv1, q1⟩, q2⟩
    have A1 := hid (rdM.first A0.out q1 q2)
    clear q1 q2 A0
    go_wp2_with fail
    refine (xBool_any (rdB.xr A1.out) (by omega)).mono ?_
    rintro e w2 ⟨rfl, q1, q2⟩
    have A2 := hid (rdB.second A1.out q1 q2)
    clear q1 q2 A1
    go_wp2
    go_ret
    exact ⟨rfl, RdEnd.of A2.out⟩
  by_cases h4 : k = 4
  · subst h4
    have c0 := (rdM.item A0.out).2
    have B0 := hid A0.out.drew
    clear A0 hn1 hn2
    go_enter Try.func23, Try.ntmps23
    go_wp2_with fail
    go_region_law (go_simp; first | (go_at_call 51; refine (Text_any (rdM.rd B0.out) (by omega) n).mono ?_; rintro e w1 ⟨rfl, ⟨rv1, q1⟩, q2⟩; have A1 := hid (rdM.first B0.out q1 q2); have c1 := (rdB.item A1.out).2; clear q1 q2) | (go_at_call 52; refine (xText_any (rdB.xr A1.out) (by omega) n).mono ?_; rintro e w2 ⟨rfl, q1, q2⟩; have A2 := hid (rdB.second A1.out q1 q2); clear q1 q2 A1))
    all_goals go_wp2
    all_goals go_ret
    all_goals exact ⟨rfl, RdEnd.of A2.out⟩
  by_cases h7 : k = 7
  · subst h7
    have c0 := (rdM.item A0.out).2
    go_enter Try.func23, Try.ntmps23
    go_wp2_with fail
    refine (rfail0_any (rdM.rd A0.out) n).mono ?_
    rintro e w1 ⟨rfl, ⟨rv1, q1⟩, q2⟩
    have A1 := hid (rdM.first A0.out q1 q2)
    have c1 := (rdB.item A1.out).2
    clear q1 q2 A0 c0
    go_wp2_with fail
    refine (xFail_any (rdB.xr A1.out) n).mono ?_
    rintro e w2 ⟨rfl, q1, q2⟩
    have A2 := hid (rdB.second A1.out q1 q2)
    clear q1 q2 A1 c1
    go_wp2
    go_ret
    exact ⟨rfl, RdEnd.of A2.out⟩
  by_cases h8 : k = 8
  · subst h8
    clear hn1 hn2
    go_enter Try.func23, Try.ntmps23
    go_wp2_with fail
    refine (Err_any (rdM.rd A0.out)).mono ?_
    rintro e w1 ⟨rfl, q2⟩
    have A1 := hid (A0.out.later q2)
    clear q2 A0
    go_wp2_with fail
    refine (xErr_any (rdM.xr A1.out)).mono ?_
    rintro e w2 ⟨rfl, q, rfl⟩
    have A2 := hid (rdM.done (A1.out.drewN q))
    clear A1
    go_wp2
    go_ret
    exact ⟨rfl, RdEnd.of A2.out⟩
  by_cases h9 : k = 9
  · subst h9
    clear hn1 hn2
    obtain ⟨er, her⟩ : ∃ er : Int, (if rs = [] then err else keepE err 15) = er := ⟨_, rfl⟩
    have HER := hid her
    clear her
    go_enter Try.func23, Try.ntmps23
    go_wp2_with fail
    refine (Close_any (rdM.rd A0.out)).mono ?_
    rw [HER.out]
    rintro e w1 ⟨rfl, ⟨rv1, q1⟩, q2⟩
    have A1 := hid (rdM.first A0.out q1 q2)
    clear q1 q2 A0
    go_wp2_with fail
    refine (xClose_any (rdB.xr A1.out) (by omega)).mono ?_
    rw [HER.out]
    rintro e w2 ⟨rfl, q1, q2⟩
    have A2 := hid (rdB.second A1.out q1 q2)
    clear q1 q2 A1
    go_wp2
    go_ret
    exact ⟨rfl, RdEnd.of A2.out⟩
  · have A1 := hid (rdM.done A0.out)
    have g1 : (k == 1) = false := by simpa using h1
    have g2 : (k == 2) = false := by simpa using h2
    have g3 : (k == 3) = false := by simpa using h3
    have g4 : (k == 4) = false := by simpa using h4
    have g5 : (k == 5) = false := by simpa using hk
    have g7 : (k == 7) = false := by simpa using h7
    have g8 : (k == 8) = false := by simpa using h8
    have g9 : (k == 9) = false := by simpa using h9
    clear h1 h2 h3 h4 h7 h8 h9 hk hn1 hn2 A0
    go_enter Try.func23, Try.ntmps23
    go_wp2
    go_ret
    exact ⟨rfl, RdEnd.of A1.out⟩

theorem Cn_inL (S : Nat) (ov wv : Value) (es : List En) (ls ds : List Comp) : (ls ++ Cn S ov wv es ds).Perm (Cn S ov wv es (ls ++ ds)) :=
  List.perm_append_comm_assoc ls (boxC S ov wv :: slC ov (es.map En.a) :: slC wv (es.map En.m) :: rows es) ds

section
variable {w w1 w2 : World} {H S b x : Nat} {ov wv rv rv' v a a2 m : Value} {es : List En} {D : Option Nat} {B rs rs1 l : List UInt8} {place place1 : Nat} {err err1 : Int} {cs : List Comp} {it : It}

theorem rdM.bytes1 (h : All (rdM H it S ov wv es b D rv x v B rs place err cs) w) (hr : Rd w1 b D rv' rs1 place1 err1) (ho : Only b w w1) (hrow : w1.ownsRow w.heap.size 5 1 a l.length (cellsB l)) : All (xrC x v B rs place err :: rowC a l :: prC b D rv' rs1 place1 err1 :: Cn S ov wv es (itC H it :: cs)) w1 :=
  ((rdM.front h).rdRow hr ho hrow).pick 2 _ rfl

theorem rdM.bytes2 (h : All (xrC x v B rs place err :: rowC a l :: prC b D rv' rs1 place1 err1 :: Cn S ov wv es (itC H it :: cs)) w) (hr : XRd w1 x v B rs1 place1 err1) (ho : Only x w w1) (hrow : w1.ownsRow w.heap.size 5 1 a2 l.length (cellsB l)) : All (boxC S ov wv :: slC ov (es.map En.a) :: slC wv (es.map En.m) :: rowC a l :: (rows es ++ (rowC a2 l :: xrC x v B rs1 place1 err1 :: prC b D rv' rs1 place1 err1 :: itC H it :: cs))) w1 := by
  have h1 := h.xrRow hr ho hrow
  have h2 : All (Cn S ov wv es ([rowC a2 l, xrC x v B rs1 place1 err1, rowC a l, prC b D rv' rs1 place1 err1] ++ (itC H it :: cs))) w1 := h1.perm (Cn_inL S ov wv es [rowC a2 l, xrC x v B rs1 place1 err1, rowC a l, prC b D rv' rs1 place1 err1] (itC H it :: cs))
  exact Cn.toKeep (Cn.perm h2 (List.perm_middle (a := rowC a l) (l₁ := [rowC a2 l, xrC x v B rs1 place1 err1])))

theorem rdM.bytes3 (h : All (boxC S ov wv :: slC ov (es.map En.a ++ [a]) :: slC wv (es.map En.m ++ [m]) :: rowC a l :: rowC m l :: (rows es ++ (rowC a2 l :: xrC x v B rs1 place1 err1 :: prC b D rv' rs1 place1 err1 :: itC H it :: cs))) w) (hl : l.length ≤ B.length) : RdEnd S es b D x v B cs w := by
  have h1 := (Cn.out (Cn.ofKeep h)).tail
  have h2 := (Cn.out (Cn.perm h1 (List.perm_middle (a := itC H it) (l₁ := [xrC x v B rs1 place1 err1, prC b D rv' rs1 place1 err1])))).tail
  refine ⟨ov, wv, _, rv', rs1, place1, err1, by simp, fun e he => ?_, Cn.perm h2 (List.Perm.swap _ _ _)⟩
  rcases List.mem_append.1 he with he | he
  · exact Or.inl he
  · rw [List.mem_singleton] at he
    subst he
    exact Or.inr ⟨rfl, hl⟩
end

set_option maxHeartbeats 3200000 in
set_option maxRecDepth 1000000 in
theorem read_bytes {w : World} {S b x : Nat} {ov wv rv v : Value} {es : List En} {D : Option Nat} {B rs : List UInt8} {place : Nat} {err : Int} {cs : List Comp} {n : Int} {bb : Bool} {s : ByteArray} (h : All (Cn S ov wv es (prC b D rv rs place err :: xrC x v B rs place err :: cs)) w) (hlen : B.length ≤ 1099511627776) (hes : es.length ≤ 1099511627776) :
    Calls Try.prog 23 #[.pointer (some ⟨b, 0, none⟩), .pointer (some ⟨x, 0, none⟩), .agg #[.int .i64 5, .int .i64 n, .bool bb, .string s], .pointer (some ⟨S, 0, none⟩)] w fun e w' => e = .returned (.bool true) ∧ RdEnd S es b D x v B cs w' := by
  have A0 := hid (rdM.made h ⟨5, n, bb, s⟩)
  have hroom := (rdM.xr A0.out).room
  have hrl := (runR_size rs n).2
  have c0 := (rdM.item A0.out).2
  clear h
  go_enter Try.func23, Try.ntmps23
  go_wp2_with fail
  refine (Bytes_any (rdM.rd A0.out) (by omega) n).mono ?_
  rintro e w1 ⟨a, rfl, q0, ⟨rv1, q1⟩, q2⟩
  have A1 := hid (rdM.bytes1 A0.out q1 q2 q0)
  have c1 : w1.cell? ⟨w.heap.size, 1, none⟩ = some (.int .i64 n) := (itC.cell (it := ⟨5, n, bb, s⟩) (A1.out.mem (c := itC w.heap.size ⟨5, n, bb, s⟩) (by simp [Cn])).2.1).2
  obtain ⟨ao, ca, ea⟩ := owns_form q0
  subst ea
  clear q0 q1 q2 A0 c0
  go_wp2_with fail
  refine (xBytes_any A1.out.1.2.1 (by omega) n).mono ?_
  rintro e w2 ⟨a2, rfl, q0, q1, q2⟩
  have A2 := hid (rdM.bytes2 A1.out q1 q2 q0)
  obtain ⟨ao2, ca2, ea⟩ := owns_form q0
  subst ea
  clear q0 q1 q2 A1 c1
  generalize (runR rs n).1 = l at *
  go_wp2_with fail
  refine (keep_any A2.out (by omega) (by rw [List.length_map]; omega) (by rw [List.length_map]; omega)).mono ?_
  rintro e w3 ⟨rfl, ov', wv', m, hk1⟩
  have RA := hid (Reads.of_owns (hk1.2.2.2.2.2.2.1.2.1))
  have RB := hid (Reads.of_owns (hk1.mem (c := rowC (.slice ao2 l.length ca2) l) (by simp)).2.1)
  have A3 := fun q => hid (rdM.bytes3 (hk1.drewN q) (by omega))
  clear hk1 A2
  go_wp2_with fail
  refine (same_q (Or.inl RA.out) (Or.inl RB.out) (by omega)).mono ?_
  rintro e w4 ⟨rfl, q, rfl⟩
  clear RA RB
  go_wp2
  go_ret
  exact ⟨rfl, (A3 q).out⟩

theorem read_any {w : World} {S b x : Nat} {ov wv rv v : Value} {es : List En} {D : Option Nat} {B rs : List UInt8} {place : Nat} {err : Int} {cs : List Comp} {it : It} (h : All (Cn S ov wv es (prC b D rv rs place err :: xrC x v B rs place err :: cs)) w) (hit : it.Ok) (hlen : B.length ≤ 1099511627776) (hes : es.length ≤ 1099511627776) :
    Calls Try.prog 23 #[.pointer (some ⟨b, 0, none⟩), .pointer (some ⟨x, 0, none⟩), .agg #[.int .i64 it.kind, .int .i64 it.n, .bool it.v, .string it.s], .pointer (some ⟨S, 0, none⟩)] w fun e w' => e = .returned (.bool true) ∧ RdEnd S es b D x v B cs w' := by
  by_cases hk : it.kind = 5
  · rw [hk]
    exact read_bytes h hlen hes
  · exact read_plain h hit (by omega) hk

end Go.Proofs.Ytdndfbgjaadbmaa
