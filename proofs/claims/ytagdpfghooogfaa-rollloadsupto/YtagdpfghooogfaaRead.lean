import Derived.Test.YtagdpfghooogfaaGet
import Derived.Deep.QuietTactic
import Derived.BigQuiet
namespace Go.Proofs.Ytagdpfghooogfaa
open Go.RowKit
set_option linter.unusedVariables false

theorem newRd {s : Value} {l : List UInt8} {cs : List Comp} {w : World} (h : All cs w) (hr : Reads w s l) (hlen : l.length ≤ 140737488355328) : Calls Try.prog 54 #[s] w fun e w' => ∃ b D rv, e = .returned (.pointer (some ⟨b, 0, none⟩)) ∧ All (rdC b D rv ⟨l, 0, 0⟩ :: cs) w' :=
  (NewReader_any hr hlen).mono fun e w' ⟨b, D, rv, h1, h2, h3, h4, h5⟩ => ⟨b, D, rv, h1, h.add (Fr.below h3) (rdC_good _ _ _ _) h2 (fun k hk => by
    simp only [rdC, List.mem_cons, Option.mem_toList] at hk
    rcases hk with rfl | hk
    · exact ⟨h4, h2.lt⟩
    · exact h5 k hk)⟩

def Rst.close (r : Rst) : Int := if r.rs = [] then r.err else keepE r.err 15
theorem closeRd {b : Nat} {D : Option Nat} {rv : Value} {r : Rst} {cs : List Comp} {w : World} (h : All (rdC b D rv r :: cs) w) : Calls Try.prog 57 #[.pointer (some ⟨b, 0, none⟩)] w fun e w' => e = .returned (.int .i64 r.close) ∧ ∃ rv', All (rdC b D rv' ⟨[], r.place, r.close⟩ :: cs) w' :=
  (Close_any h.1.2.1).mono fun e w' ⟨h1, ⟨rv', h2⟩, h3⟩ => ⟨h1, rv', h.rstep h2 h3⟩

/-- A row, as it is read. -/
structure Rw where
  n : Int
  a : Int
  c : Int
  k : Int
  l : List ByteArray
abbrev M40 : Int := 1099511627776
def rst0 (bs : List UInt8) : Rst := ⟨bs, 0, 0⟩
def rowR (bs : List UInt8) : Rw := ⟨(rst0 bs).numV 1099511627776, ((rst0 bs).num 1099511627776).numV 1099511627776, (((rst0 bs).num 1099511627776).num 1099511627776).resV.c, (((rst0 bs).num 1099511627776).num 1099511627776).resV.k, (((rst0 bs).num 1099511627776).num 1099511627776).resV.l⟩
def rowE (bs : List UInt8) : Int := (((rst0 bs).num 1099511627776).num 1099511627776).res.close
def rowOk (bs : List UInt8) : Bool := rowE bs == 0 && may (rowR bs).n (rowR bs).a (rowR bs).c (rowR bs).k (rowR bs).l

theorem resV_len (q : Rst) : q.resV.l.length ≤ 9223372036854775807 := by
  unfold Rst.resV
  split
  · unfold Rst.res0
    split
    · simp only [items_len]
      have h1 := numR_le ((q.num 4).num 1099511627776).rs 8 13 (by omega)
      unfold Rst.numV
      omega
    · simp
  · simp

theorem res41 {tmps : Array Value} {w : World} {b : Nat} {n a c k : Int} {s v : Value} (ht : tmps.getD 2 undef = .pointer (some ⟨b, 0, none⟩)) (hv : tmps.getD 3 undef = v) (h : w.heap[b]? = some (.cells #[.int .i64 n, .int .i64 a, .int .i64 c, .int .i64 k, s] 39 (0, 0))) : (results Try.f41 tmps).run Try.prog w = .ok (.tuple #[rowV n a c k s, v]) w := by
  have hp' : tmps[2]?.getD undef = .pointer (some ⟨b, 0, none⟩) := by simpa using ht
  have hv' : tmps[3]?.getD undef = v := by simpa using hv
  have hres : Try.f41.results = #[.cell 2 39, .tmp 3] := rfl
  have x0 : w.cell? ⟨b, 0, none⟩ = some (.int .i64 n) := by rw [cell_at h]; rfl
  have x1 : w.cell? ⟨b, 1, none⟩ = some (.int .i64 a) := by rw [cell_at h]; rfl
  have x2 : w.cell? ⟨b, 2, none⟩ = some (.int .i64 c) := by rw [cell_at h]; rfl
  have x3 : w.cell? ⟨b, 3, none⟩ = some (.int .i64 k) := by rw [cell_at h]; rfl
  have x4 : w.cell? ⟨b, 4, none⟩ = some s := by rw [cell_at h]; rfl
  simp only [results, hres]
  go_simp

set_option maxHeartbeats 1600000 in
set_option maxRecDepth 1000000 in
theorem readRow_any {s : Value} {bs : List UInt8} {cs : List Comp} {w : World} (h : All cs w) (hr : Reads w s bs) (hlen : bs.length ≤ 140737488355328) :
    Calls Try.prog 41 #[s] w fun e w' => (rowOk bs = false ∧ e = .returned (.tuple #[rowV 0 0 0 0 (.slice none 0 0), .bool false]) ∧ All cs w') ∨
      (rowOk bs = true ∧ ∃ so sc, e = .returned (.tuple #[rowV (rowR bs).n (rowR bs).a (rowR bs).c (rowR bs).k (.slice so (rowR bs).l.length sc), .bool true]) ∧ All (ownC 9 (.slice so (rowR bs).l.length sc) (cellsT (rowR bs).l) :: cs) w') := by
  obtain ⟨ao, cp, rfl⟩ := hr.form
  have A0 := hid (h.addBlk [.int .i64 0, .int .i64 0, .int .i64 0, .int .i64 0, .slice none 0 0] 39)
  have HR := hid hr
  clear h hr
  go_enter Try.func41, Try.ntmps41
  go_wp2_with fail
  refine (newRd A0.out (HR.out.below (ba _ _)) hlen).mono ?_
  rintro e w1 ⟨b, D, rv1, rfl, A1⟩
  have A1 := hid A1
  clear A0 HR
  go_wp2_with fail
  refine (numRd A1.out (by simpa using hlen) 1099511627776).mono ?_
  rintro e w2 ⟨rfl, rv2, A2⟩
  have A2 := hid A2
  clear A1
  go_wp2_with fail
  refine (numRd A2.out (by have h1 := num_size (rst0 bs) 1099511627776; unfold Rst.size rst0 at h1; simp only at h1; omega) 1099511627776).mono ?_
  rintro e w3 ⟨rfl, rv3, A3⟩
  have A3 := hid A3
  clear A2
  go_wp2_with fail
  refine (getResult_any A3.out (by have h1 := num_size (rst0 bs) 1099511627776; have h2 := num_size ((rst0 bs).num 1099511627776) 1099511627776; have h3 : (rst0 bs).size ≤ 140737488355328 := (by unfold Rst.size rst0; simpa using hlen); unfold rst0 at h1 h2 h3; omega)).mono ?_
  rintro e w4 ⟨so, sc, rv4, rfl, A4⟩
  obtain ⟨X, hX⟩ : ∃ X, Hid (X = rowR bs) := ⟨_, hid rfl⟩
  have X1 : (⟨bs, 0, 0⟩ : Rst).numV 1099511627776 = X.n := by rw [hX.out]; rfl
  have X2 : ((⟨bs, 0, 0⟩ : Rst).num 1099511627776).numV 1099511627776 = X.a := by rw [hX.out]; rfl
  have X3 : (((⟨bs, 0, 0⟩ : Rst).num 1099511627776).num 1099511627776).resV = ⟨X.c, X.k, X.l⟩ := by rw [hX.out]; rfl
  obtain ⟨q4, hq4⟩ : ∃ q4, Hid (q4 = (((rst0 bs).num 1099511627776).num 1099511627776).res) := ⟨_, hid rfl⟩
  rw [show (((⟨bs, 0, 0⟩ : Rst).num 1099511627776).num 1099511627776).res = q4 from hq4.out.symm, X3] at A4
  rw [X1, X2, X3]
  have E4 : Hid (rowOk bs = (q4.close == 0 && may X.n X.a X.c X.k X.l)) := hid (by rw [hX.out, hq4.out]; rfl)
  simp only at A4 ⊢
  obtain ⟨nl, hnl⟩ : ∃ nl, Hid (nl = X.l.length) := ⟨_, hid rfl⟩
  rw [← hnl.out] at A4 ⊢
  have A5 := hid (A4.addBlk [.int .i64 X.n, .int .i64 X.a, .int .i64 X.c, .int .i64 X.k, .slice so nl sc] 39)
  have HL : Hid (X.l.length ≤ 9223372036854775807) := hid (by
    have : X.l = (((rst0 bs).num 1099511627776).num 1099511627776).resV.l := by rw [hX.out]; rfl
    rw [this]
    generalize ((rst0 bs).num 1099511627776).num 1099511627776 = q
    exact resV_len q)
  clear A3 A4 X1 X2 X3
  go_wp2_with fail
  refine (closeRd A5.out.rev3).mono ?_
  rintro e w5 ⟨rfl, rv5, A6⟩
  have A6 := hid A6
  obtain ⟨ck, hck⟩ : ∃ ck, Hid (ck = q4.close) := ⟨_, hid rfl⟩
  rw [← hck.out] at A6 E4 ⊢
  clear A5
  have erx : w5.heap[w4.heap.size]? = some (.cells #[.int .i64 X.n, .int .i64 X.a, .int .i64 X.c, .int .i64 X.k, .slice so nl sc] 39 (0, 0)) := A6.out.tail.tail.1.2.1
  have x0 : w5.cell? ⟨w4.heap.size, 0, none⟩ = some (.int .i64 X.n) := by rw [cell_at erx]; rfl
  have x1 : w5.cell? ⟨w4.heap.size, 1, none⟩ = some (.int .i64 X.a) := by rw [cell_at erx]; rfl
  have x2 : w5.cell? ⟨w4.heap.size, 2, none⟩ = some (.int .i64 X.c) := by rw [cell_at erx]; rfl
  have x3 : w5.cell? ⟨w4.heap.size, 3, none⟩ = some (.int .i64 X.k) := by rw [cell_at erx]; rfl
  have x4 : w5.cell? ⟨w4.heap.size, 4, none⟩ = some (.slice so nl sc) := by rw [cell_at erx]; rfl
  clear erx
  have err : w5.heap[w.heap.size]? = some (.cells #[.int .i64 0, .int .i64 0, .int .i64 0, .int .i64 0, .slice none 0 0] 39 (0, 0)) := A6.out.tail.tail.tail.1.2.1
  have r0 : w5.cell? ⟨w.heap.size, 0, none⟩ = some (.int .i64 0) := by rw [cell_at err]; rfl
  have r1 : w5.cell? ⟨w.heap.size, 1, none⟩ = some (.int .i64 0) := by rw [cell_at err]; rfl
  have r2 : w5.cell? ⟨w.heap.size, 2, none⟩ = some (.int .i64 0) := by rw [cell_at err]; rfl
  have r3 : w5.cell? ⟨w.heap.size, 3, none⟩ = some (.int .i64 0) := by rw [cell_at err]; rfl
  have r4 : w5.cell? ⟨w.heap.size, 4, none⟩ = some (.slice none 0 0) := by rw [cell_at err]; rfl
  have fr0 : w5.frozen? ⟨w.heap.size, 0, none⟩ = false := free_at err 0
  have fr1 : w5.frozen? ⟨w.heap.size, 1, none⟩ = false := free_at err 1
  have fr2 : w5.frozen? ⟨w.heap.size, 2, none⟩ = false := free_at err 2
  have fr3 : w5.frozen? ⟨w.heap.size, 3, none⟩ = false := free_at err 3
  have fr4 : w5.frozen? ⟨w.heap.size, 4, none⟩ = false := free_at err 4
  clear err
  by_cases hc : ck = 0
  case neg =>
    have ec : (ck != 0) = true := by simpa using hc
    have V : Hid (rowOk bs = false) := hid (by rw [E4.out, show (ck == 0) = false by simpa using hc]; rfl)
    go_wp2
    have A8 := ((((((A6.out.perm (rot4 _ _ _ _ cs)).setBlk 0 (.int .i64 0)).setBlk 1 (.int .i64 0)).setBlk 2 (.int .i64 0)).setBlk 3 (.int .i64 0)).setBlk 4 (.slice none 0 0))
    refine bodyPost_ret (v := .tuple #[rowV 0 0 0 0 (.slice none 0 0), .bool false]) (res41 (b := w.heap.size) rfl rfl A8.1.2.1) rfl ?_
    exact .inl ⟨V.out, rfl, A8.tail.tail.tail.tail⟩
  subst hc
  have HT : Hid (Txts w5 (.slice so nl sc) X.l) := hid (Txts.of_owns (base := 0) (by
    have h2 : w5.ownsRow 0 9 1 (.slice so nl sc) (cellsT X.l).length (cellsT X.l) := A6.out.tail.1.2.1
    rw [cellsT_length] at h2; exact h2))
  go_wp2_with fail
  refine (mayBe_any X.n X.a X.c X.k HT.out HL.out).mono ?_
  rintro e w6 ⟨rfl, B6⟩
  have A6 := hid (A6.out.later B6)
  clear HT B6 x0 x1 x2 x3 x4 r0 r1 r2 r3 r4 fr0 fr1 fr2 fr3 fr4
  have erx : w6.heap[w4.heap.size]? = some (.cells #[.int .i64 X.n, .int .i64 X.a, .int .i64 X.c, .int .i64 X.k, .slice so nl sc] 39 (0, 0)) := A6.out.tail.tail.1.2.1
  have x0 : w6.cell? ⟨w4.heap.size, 0, none⟩ = some (.int .i64 X.n) := by rw [cell_at erx]; rfl
  have x1 : w6.cell? ⟨w4.heap.size, 1, none⟩ = some (.int .i64 X.a) := by rw [cell_at erx]; rfl
  have x2 : w6.cell? ⟨w4.heap.size, 2, none⟩ = some (.int .i64 X.c) := by rw [cell_at erx]; rfl
  have x3 : w6.cell? ⟨w4.heap.size, 3, none⟩ = some (.int .i64 X.k) := by rw [cell_at erx]; rfl
  have x4 : w6.cell? ⟨w4.heap.size, 4, none⟩ = some (.slice so nl sc) := by rw [cell_at erx]; rfl
  clear erx
  have err : w6.heap[w.heap.size]? = some (.cells #[.int .i64 0, .int .i64 0, .int .i64 0, .int .i64 0, .slice none 0 0] 39 (0, 0)) := A6.out.tail.tail.tail.1.2.1
  have r0 : w6.cell? ⟨w.heap.size, 0, none⟩ = some (.int .i64 0) := by rw [cell_at err]; rfl
  have r1 : w6.cell? ⟨w.heap.size, 1, none⟩ = some (.int .i64 0) := by rw [cell_at err]; rfl
  have r2 : w6.cell? ⟨w.heap.size, 2, none⟩ = some (.int .i64 0) := by rw [cell_at err]; rfl
  have r3 : w6.cell? ⟨w.heap.size, 3, none⟩ = some (.int .i64 0) := by rw [cell_at err]; rfl
  have r4 : w6.cell? ⟨w.heap.size, 4, none⟩ = some (.slice none 0 0) := by rw [cell_at err]; rfl
  have fr0 : w6.frozen? ⟨w.heap.size, 0, none⟩ = false := free_at err 0
  have fr1 : w6.frozen? ⟨w.heap.size, 1, none⟩ = false := free_at err 1
  have fr2 : w6.frozen? ⟨w.heap.size, 2, none⟩ = false := free_at err 2
  have fr3 : w6.frozen? ⟨w.heap.size, 3, none⟩ = false := free_at err 3
  have fr4 : w6.frozen? ⟨w.heap.size, 4, none⟩ = false := free_at err 4
  clear err
  by_cases hm : may X.n X.a X.c X.k X.l = true
  case neg =>
    have hm' : may X.n X.a X.c X.k X.l = false := by simpa using hm
    rw [hm']
    have V : Hid (rowOk bs = false) := hid (by rw [E4.out]; rw [hm']; rfl)
    go_wp2
    have A8 := ((((((A6.out.perm (rot4 _ _ _ _ cs)).setBlk 0 (.int .i64 0)).setBlk 1 (.int .i64 0)).setBlk 2 (.int .i64 0)).setBlk 3 (.int .i64 0)).setBlk 4 (.slice none 0 0))
    refine bodyPost_ret (v := .tuple #[rowV 0 0 0 0 (.slice none 0 0), .bool false]) (res41 (b := w.heap.size) rfl rfl A8.1.2.1) rfl ?_
    exact .inl ⟨V.out, rfl, A8.tail.tail.tail.tail⟩
  rw [hm]
  have V : Hid (rowOk bs = true) := hid (by rw [E4.out, hm]; rfl)
  clear hm E4
  go_wp2
  have A8 := ((((((A6.out.perm (rot4 _ _ _ _ cs)).setBlk 0 (.int .i64 X.n)).setBlk 1 (.int .i64 X.a)).setBlk 2 (.int .i64 X.c)).setBlk 3 (.int .i64 X.k)).setBlk 4 (.slice so nl sc))
  refine bodyPost_ret (v := .tuple #[rowV X.n X.a X.c X.k (.slice so nl sc), .bool true]) (res41 (b := w.heap.size) rfl rfl A8.1.2.1) rfl ?_
  refine .inr ⟨V.out, so, sc, ?_, ?_⟩
  · rw [← hX.out, ← hnl.out]
  · rw [← hX.out, ← hnl.out]
    exact A8.tail.sublist (by first | exact .cons _ (.cons_cons _ (.cons _ (.refl _))) | exact .cons _ (.cons _ (.cons_cons _ (.refl _))))

end Go.Proofs.Ytagdpfghooogfaa
