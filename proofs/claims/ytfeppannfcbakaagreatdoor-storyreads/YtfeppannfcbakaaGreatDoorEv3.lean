import Derived.Test.YtfeppannfcbakaaGreatDoorEv2
namespace Go.Proofs.YtfeppannfcbakaaGreatDoor
open Go.RowKit
set_option linter.unusedVariables false
set_option maxRecDepth 1000000
set_option maxHeartbeats 12800000
structure Ev where
 k : Int
 a : Int
 nb : Int
 nm : Int
 wh : Int
 cd : Int
 fr : Bool
 ok : Int
 onm : List UInt8
 otx : List UInt8
 on : Int
 om : Int
 ec : Int
 en : Int
 pk : Int
 pnm : List UInt8
 ptx : List UInt8
 pn : Int
 pm : Int
 rc : Int
 rn : Int
 ria : Option Addr
 rik : Nat
 ric : Nat
 l0 : Int
 l1 : Int
 l2 : Int
 l3 : Int
 l4 : Int
 l5 : Int
 l6 : Int
 l7 : Int
 sn : Int
 sa : Int
 dia : Option Addr
 dik : Nat
 dic : Nat
def Ev.cells (e : Ev) : List Value := [.int .i64 e.k, .int .i64 e.a, .int .i64 e.nb, .int .i64 e.nm, .int .i64 e.wh, .int .i64 e.cd, .bool e.fr, .int .i64 e.ok, .string ⟨e.onm.toArray⟩, .string ⟨e.otx.toArray⟩, .int .i64 e.on, .int .i64 e.om, .int .i64 e.ec, .int .i64 e.en, .int .i64 e.pk, .string ⟨e.pnm.toArray⟩, .string ⟨e.ptx.toArray⟩, .int .i64 e.pn, .int .i64 e.pm, .int .i64 e.rc, .int .i64 e.rn, .slice e.ria e.rik e.ric, .int .i64 e.l0, .int .i64 e.l1, .int .i64 e.l2, .int .i64 e.l3, .int .i64 e.l4, .int .i64 e.l5, .int .i64 e.l6, .int .i64 e.l7, .int .i64 e.sn, .int .i64 e.sa, .slice e.dia e.dik e.dic]
theorem Ev.len (e : Ev) : e.cells.length = 33 := rfl
theorem Ev.typed (e : Ev) (k : Int) : TpL (kindT k) e.cells := by
 unfold kindT
 repeat' split
 all_goals simp [TpL, TpT, TpF, Tp1, sub, clr, clrF, clr1, Ev.cells, lookL, shtL]
def Ev.z_a (e : Ev) : Bool := decide (e.a = 0)
def Ev.z_nb (e : Ev) : Bool := decide (e.nb = 0)
def Ev.z_nm (e : Ev) : Bool := decide (e.nm = 0)
def Ev.z_wh (e : Ev) : Bool := decide (e.wh = 0)
def Ev.z_cd (e : Ev) : Bool := decide (e.cd = 0)
def Ev.z_fr (e : Ev) : Bool := decide (e.fr = false)
def Ev.z_op (e : Ev) : Bool := decide (e.ok = 0 ∧ e.onm = [] ∧ e.otx = [] ∧ e.on = 0 ∧ e.om = 0)
def Ev.z_en (e : Ev) : Bool := decide (e.ec = 0 ∧ e.en = 0 ∧ e.pk = 0 ∧ e.pnm = [] ∧ e.ptx = [] ∧ e.pn = 0 ∧ e.pm = 0)
def Ev.z_lk (e : Ev) : Bool := decide (e.l0 = 0 ∧ e.l1 = 0 ∧ e.l2 = 0 ∧ e.l3 = 0 ∧ e.l4 = 0 ∧ e.l5 = 0 ∧ e.l6 = 0 ∧ e.l7 = 0)
def Ev.z_rc (e : Ev) : Bool := decide (e.rc = 0)
def Ev.z_rn (e : Ev) : Bool := decide (e.rn = 0)
def Ev.z_rk (e : Ev) : Bool := decide (e.rik = 0)
def Ev.z_sn (e : Ev) : Bool := decide (e.sn = 0)
def Ev.z_sa (e : Ev) : Bool := decide (e.sa = 0)
def Ev.z_dk (e : Ev) : Bool := decide (e.dik = 0)
def Ev.empty (e : Ev) : Bool := e.z_a && e.z_nb && e.z_nm && e.z_wh && e.z_cd && e.z_fr && e.z_op && e.z_en && e.z_lk && e.z_rc && e.z_rn && e.z_rk && e.z_sn && e.z_sa && e.z_dk
theorem eq24 (k n m : Int) (nm tx : List UInt8) (w : World) : (Go.binOp .eql 24 (.agg #[.int .i64 k, .string ⟨nm.toArray⟩, .string ⟨tx.toArray⟩, .int .i64 n, .int .i64 m]) (.agg #[.int .i64 0, .string ⟨#[]⟩, .string ⟨#[]⟩, .int .i64 0, .int .i64 0])).run Tryz.prog w = .ok (.bool (decide (k = 0 ∧ nm = [] ∧ tx = [] ∧ n = 0 ∧ m = 0))) w := by
 go_simp
 repeat' split
 all_goals simp_all
theorem eq26 (c q k n m : Int) (nm tx : List UInt8) (w : World) : (Go.binOp .eql 26 (.agg #[.int .i64 c, .int .i64 q, .int .i64 k, .string ⟨nm.toArray⟩, .string ⟨tx.toArray⟩, .int .i64 n, .int .i64 m]) (.agg #[.int .i64 0, .int .i64 0, .int .i64 0, .string ⟨#[]⟩, .string ⟨#[]⟩, .int .i64 0, .int .i64 0])).run Tryz.prog w = .ok (.bool (decide (c = 0 ∧ q = 0 ∧ k = 0 ∧ nm = [] ∧ tx = [] ∧ n = 0 ∧ m = 0))) w := by
 go_simp
 repeat' split
 all_goals simp_all
theorem eq31 (a b c d e f g h : Int) (w : World) : (Go.binOp .eql 31 (.agg #[.int .i64 a, .int .i64 b, .int .i64 c, .int .i64 d, .int .i64 e, .int .i64 f, .int .i64 g, .int .i64 h]) (.agg #[.int .i64 0, .int .i64 0, .int .i64 0, .int .i64 0, .int .i64 0, .int .i64 0, .int .i64 0, .int .i64 0])).run Tryz.prog w = .ok (.bool (decide (a = 0 ∧ b = 0 ∧ c = 0 ∧ d = 0 ∧ e = 0 ∧ f = 0 ∧ g = 0 ∧ h = 0))) w := by
 go_simp
 repeat' split
 all_goals simp_all
theorem isEmpty_any (e : Ev) (w : World) : Calls Tryz.prog 54 #[.agg e.cells.toArray] w fun r w' => r = .returned (.bool e.empty) ∧ Below w.heap.size w w' := by
 have hb := heap_alloc_new w (.cells e.cells.toArray 36)
 have bw := hid (ba w (.cells e.cells.toArray 36))
 have c1 : (w.alloc (.cells e.cells.toArray 36)).cell? ⟨w.heap.size, 1, none⟩ = some (.int .i64 e.a) := by rw [cell_at hb]; rfl
 have c2 : (w.alloc (.cells e.cells.toArray 36)).cell? ⟨w.heap.size, 2, none⟩ = some (.int .i64 e.nb) := by rw [cell_at hb]; rfl
 have c3 : (w.alloc (.cells e.cells.toArray 36)).cell? ⟨w.heap.size, 3, none⟩ = some (.int .i64 e.nm) := by rw [cell_at hb]; rfl
 have c4 : (w.alloc (.cells e.cells.toArray 36)).cell? ⟨w.heap.size, 4, none⟩ = some (.int .i64 e.wh) := by rw [cell_at hb]; rfl
 have c5 : (w.alloc (.cells e.cells.toArray 36)).cell? ⟨w.heap.size, 5, none⟩ = some (.int .i64 e.cd) := by rw [cell_at hb]; rfl
 have c6 : (w.alloc (.cells e.cells.toArray 36)).cell? ⟨w.heap.size, 6, none⟩ = some (.bool e.fr) := by rw [cell_at hb]; rfl
 have c7 : (w.alloc (.cells e.cells.toArray 36)).cell? ⟨w.heap.size, 7, none⟩ = some (.int .i64 e.ok) := by rw [cell_at hb]; rfl
 have c8 : (w.alloc (.cells e.cells.toArray 36)).cell? ⟨w.heap.size, 8, none⟩ = some (.string ⟨e.onm.toArray⟩) := by rw [cell_at hb]; rfl
 have c9 : (w.alloc (.cells e.cells.toArray 36)).cell? ⟨w.heap.size, 9, none⟩ = some (.string ⟨e.otx.toArray⟩) := by rw [cell_at hb]; rfl
 have c10 : (w.alloc (.cells e.cells.toArray 36)).cell? ⟨w.heap.size, 10, none⟩ = some (.int .i64 e.on) := by rw [cell_at hb]; rfl
 have c11 : (w.alloc (.cells e.cells.toArray 36)).cell? ⟨w.heap.size, 11, none⟩ = some (.int .i64 e.om) := by rw [cell_at hb]; rfl
 have c12 : (w.alloc (.cells e.cells.toArray 36)).cell? ⟨w.heap.size, 12, none⟩ = some (.int .i64 e.ec) := by rw [cell_at hb]; rfl
 have c13 : (w.alloc (.cells e.cells.toArray 36)).cell? ⟨w.heap.size, 13, none⟩ = some (.int .i64 e.en) := by rw [cell_at hb]; rfl
 have c14 : (w.alloc (.cells e.cells.toArray 36)).cell? ⟨w.heap.size, 14, none⟩ = some (.int .i64 e.pk) := by rw [cell_at hb]; rfl
 have c15 : (w.alloc (.cells e.cells.toArray 36)).cell? ⟨w.heap.size, 15, none⟩ = some (.string ⟨e.pnm.toArray⟩) := by rw [cell_at hb]; rfl
 have c16 : (w.alloc (.cells e.cells.toArray 36)).cell? ⟨w.heap.size, 16, none⟩ = some (.string ⟨e.ptx.toArray⟩) := by rw [cell_at hb]; rfl
 have c17 : (w.alloc (.cells e.cells.toArray 36)).cell? ⟨w.heap.size, 17, none⟩ = some (.int .i64 e.pn) := by rw [cell_at hb]; rfl
 have c18 : (w.alloc (.cells e.cells.toArray 36)).cell? ⟨w.heap.size, 18, none⟩ = some (.int .i64 e.pm) := by rw [cell_at hb]; rfl
 have c19 : (w.alloc (.cells e.cells.toArray 36)).cell? ⟨w.heap.size, 19, none⟩ = some (.int .i64 e.rc) := by rw [cell_at hb]; rfl
 have c20 : (w.alloc (.cells e.cells.toArray 36)).cell? ⟨w.heap.size, 20, none⟩ = some (.int .i64 e.rn) := by rw [cell_at hb]; rfl
 have c21 : (w.alloc (.cells e.cells.toArray 36)).cell? ⟨w.heap.size, 21, none⟩ = some (.slice e.ria e.rik e.ric) := by rw [cell_at hb]; rfl
 have c22 : (w.alloc (.cells e.cells.toArray 36)).cell? ⟨w.heap.size, 22, none⟩ = some (.int .i64 e.l0) := by rw [cell_at hb]; rfl
 have c23 : (w.alloc (.cells e.cells.toArray 36)).cell? ⟨w.heap.size, 23, none⟩ = some (.int .i64 e.l1) := by rw [cell_at hb]; rfl
 have c24 : (w.alloc (.cells e.cells.toArray 36)).cell? ⟨w.heap.size, 24, none⟩ = some (.int .i64 e.l2) := by rw [cell_at hb]; rfl
 have c25 : (w.alloc (.cells e.cells.toArray 36)).cell? ⟨w.heap.size, 25, none⟩ = some (.int .i64 e.l3) := by rw [cell_at hb]; rfl
 have c26 : (w.alloc (.cells e.cells.toArray 36)).cell? ⟨w.heap.size, 26, none⟩ = some (.int .i64 e.l4) := by rw [cell_at hb]; rfl
 have c27 : (w.alloc (.cells e.cells.toArray 36)).cell? ⟨w.heap.size, 27, none⟩ = some (.int .i64 e.l5) := by rw [cell_at hb]; rfl
 have c28 : (w.alloc (.cells e.cells.toArray 36)).cell? ⟨w.heap.size, 28, none⟩ = some (.int .i64 e.l6) := by rw [cell_at hb]; rfl
 have c29 : (w.alloc (.cells e.cells.toArray 36)).cell? ⟨w.heap.size, 29, none⟩ = some (.int .i64 e.l7) := by rw [cell_at hb]; rfl
 have c30 : (w.alloc (.cells e.cells.toArray 36)).cell? ⟨w.heap.size, 30, none⟩ = some (.int .i64 e.sn) := by rw [cell_at hb]; rfl
 have c31 : (w.alloc (.cells e.cells.toArray 36)).cell? ⟨w.heap.size, 31, none⟩ = some (.int .i64 e.sa) := by rw [cell_at hb]; rfl
 have c32 : (w.alloc (.cells e.cells.toArray 36)).cell? ⟨w.heap.size, 32, none⟩ = some (.slice e.dia e.dik e.dic) := by rw [cell_at hb]; rfl
 clear hb
 have q24 := fun W => eq24 e.ok e.on e.om e.onm e.otx W
 have q26 := fun W => eq26 e.ec e.en e.pk e.pn e.pm e.pnm e.ptx W
 have q31 := fun W => eq31 e.l0 e.l1 e.l2 e.l3 e.l4 e.l5 e.l6 e.l7 W
 have EM : Hid (e.empty = (e.z_a && e.z_nb && e.z_nm && e.z_wh && e.z_cd && e.z_fr && e.z_op && e.z_en && e.z_lk && e.z_rc && e.z_rn && e.z_rk && e.z_sn && e.z_sa && e.z_dk)) := hid rfl
 go_enter Tryz.func54, Tryz.ntmps54
 go_upto_region 1 with fail
 generalize w.alloc (.cells e.cells.toArray 36) = w1 at *
 by_cases h0 : e.a = 0
 rotate_left
 · have FIN : Hid (e.empty = false) := hid (by rw [EM.out]; simp only [Ev.z_a, decide_eq_false h0, Bool.false_and])
   have x0 : (e.a == 0) = false := by simpa using h0
   clear h0 EM
   as_aux_lemma =>
     go_wp2
     go_ret
     exact ⟨by rw [FIN.out]; rfl, bw.out⟩
 have x0 : (e.a == 0) = true := by simpa using h0
 by_cases h1 : e.nb = 0
 rotate_left
 · have FIN : Hid (e.empty = false) := hid (by rw [EM.out]; simp only [Ev.z_nb, decide_eq_false h1, Bool.and_false, Bool.false_and])
   have x1 : (e.nb == 0) = false := by simpa using h1
   clear h0 h1 EM
   as_aux_lemma =>
     go_wp2
     go_ret
     exact ⟨by rw [FIN.out]; rfl, bw.out⟩
 have x1 : (e.nb == 0) = true := by simpa using h1
 by_cases h2 : e.nm = 0
 rotate_left
 · have FIN : Hid (e.empty = false) := hid (by rw [EM.out]; simp only [Ev.z_nm, decide_eq_false h2, Bool.and_false, Bool.false_and])
   have x2 : (e.nm == 0) = false := by simpa using h2
   clear h0 h1 h2 EM
   as_aux_lemma =>
     go_wp2
     go_ret
     exact ⟨by rw [FIN.out]; rfl, bw.out⟩
 have x2 : (e.nm == 0) = true := by simpa using h2
 by_cases h3 : e.wh = 0
 rotate_left
 · have FIN : Hid (e.empty = false) := hid (by rw [EM.out]; simp only [Ev.z_wh, decide_eq_false h3, Bool.and_false, Bool.false_and])
   have x3 : (e.wh == 0) = false := by simpa using h3
   clear h0 h1 h2 h3 EM
   as_aux_lemma =>
     go_wp2
     go_ret
     exact ⟨by rw [FIN.out]; rfl, bw.out⟩
 have x3 : (e.wh == 0) = true := by simpa using h3
 by_cases h4 : e.cd = 0
 rotate_left
 · have FIN : Hid (e.empty = false) := hid (by rw [EM.out]; simp only [Ev.z_cd, decide_eq_false h4, Bool.and_false, Bool.false_and])
   have x4 : (e.cd == 0) = false := by simpa using h4
   clear h0 h1 h2 h3 h4 EM
   as_aux_lemma =>
     go_wp2
     go_ret
     exact ⟨by rw [FIN.out]; rfl, bw.out⟩
 have x4 : (e.cd == 0) = true := by simpa using h4
 by_cases h5 : e.fr = false
 rotate_left
 · have FIN : Hid (e.empty = false) := hid (by rw [EM.out]; simp only [Ev.z_fr, decide_eq_false h5, Bool.and_false, Bool.false_and])
   have x5 : e.fr = true := by simpa using h5
   rw [x5] at c6
   clear h0 h1 h2 h3 h4 h5 EM
   as_aux_lemma =>
     go_wp2
     go_ret
     exact ⟨by rw [FIN.out]; rfl, bw.out⟩
 have x5 : e.fr = false := by simpa using h5
 rw [x5] at c6
 by_cases h6 : e.ok = 0 ∧ e.onm = [] ∧ e.otx = [] ∧ e.on = 0 ∧ e.om = 0
 rotate_left
 · have FIN : Hid (e.empty = false) := hid (by rw [EM.out]; simp only [Ev.z_op, decide_eq_false h6, Bool.and_false, Bool.false_and])
   simp only [decide_eq_false h6] at q24
   clear h0 h1 h2 h3 h4 h5 h6 EM
   as_aux_lemma =>
     go_wp2
     go_ret
     exact ⟨by rw [FIN.out]; rfl, bw.out⟩
 simp only [decide_eq_true h6] at q24
 by_cases h7 : e.ec = 0 ∧ e.en = 0 ∧ e.pk = 0 ∧ e.pnm = [] ∧ e.ptx = [] ∧ e.pn = 0 ∧ e.pm = 0
 rotate_left
 · have FIN : Hid (e.empty = false) := hid (by rw [EM.out]; simp only [Ev.z_en, decide_eq_false h7, Bool.and_false, Bool.false_and])
   simp only [decide_eq_false h7] at q26
   clear h0 h1 h2 h3 h4 h5 h6 h7 EM
   as_aux_lemma =>
     go_wp2
     go_ret
     exact ⟨by rw [FIN.out]; rfl, bw.out⟩
 simp only [decide_eq_true h7] at q26
 by_cases h8 : e.l0 = 0 ∧ e.l1 = 0 ∧ e.l2 = 0 ∧ e.l3 = 0 ∧ e.l4 = 0 ∧ e.l5 = 0 ∧ e.l6 = 0 ∧ e.l7 = 0
 rotate_left
 · have FIN : Hid (e.empty = false) := hid (by rw [EM.out]; simp only [Ev.z_lk, decide_eq_false h8, Bool.and_false, Bool.false_and])
   simp only [decide_eq_false h8] at q31
   clear h0 h1 h2 h3 h4 h5 h6 h7 h8 EM
   as_aux_lemma =>
     go_wp2
     go_ret
     exact ⟨by rw [FIN.out]; rfl, bw.out⟩
 simp only [decide_eq_true h8] at q31
 by_cases h9 : e.rc = 0
 rotate_left
 · have FIN : Hid (e.empty = false) := hid (by rw [EM.out]; simp only [Ev.z_rc, decide_eq_false h9, Bool.and_false, Bool.false_and])
   have x9 : (e.rc == 0) = false := by simpa using h9
   clear h0 h1 h2 h3 h4 h5 h6 h7 h8 h9 EM
   as_aux_lemma =>
     go_wp2
     go_ret
     exact ⟨by rw [FIN.out]; rfl, bw.out⟩
 have x9 : (e.rc == 0) = true := by simpa using h9
 by_cases h10 : e.rn = 0
 rotate_left
 · have FIN : Hid (e.empty = false) := hid (by rw [EM.out]; simp only [Ev.z_rn, decide_eq_false h10, Bool.and_false, Bool.false_and])
   have x10 : (e.rn == 0) = false := by simpa using h10
   clear h0 h1 h2 h3 h4 h5 h6 h7 h8 h9 h10 EM
   as_aux_lemma =>
     go_wp2
     go_ret
     exact ⟨by rw [FIN.out]; rfl, bw.out⟩
 have x10 : (e.rn == 0) = true := by simpa using h10
 by_cases h11 : e.rik = 0
 rotate_left
 · have FIN : Hid (e.empty = false) := hid (by rw [EM.out]; simp only [Ev.z_rk, decide_eq_false h11, Bool.and_false, Bool.false_and])
   have x11 : ((e.rik : Int) == 0) = false := by simp [h11]
   clear h0 h1 h2 h3 h4 h5 h6 h7 h8 h9 h10 h11 EM
   as_aux_lemma =>
     go_wp2
     go_ret
     exact ⟨by rw [FIN.out]; rfl, bw.out⟩
 have x11 : ((e.rik : Int) == 0) = true := by simp [h11]
 by_cases h12 : e.sn = 0
 rotate_left
 · have FIN : Hid (e.empty = false) := hid (by rw [EM.out]; simp only [Ev.z_sn, decide_eq_false h12, Bool.and_false, Bool.false_and])
   have x12 : (e.sn == 0) = false := by simpa using h12
   clear h0 h1 h2 h3 h4 h5 h6 h7 h8 h9 h10 h11 h12 EM
   as_aux_lemma =>
     go_wp2
     go_ret
     exact ⟨by rw [FIN.out]; rfl, bw.out⟩
 have x12 : (e.sn == 0) = true := by simpa using h12
 by_cases h13 : e.sa = 0
 rotate_left
 · have FIN : Hid (e.empty = false) := hid (by rw [EM.out]; simp only [Ev.z_sa, decide_eq_false h13, Bool.and_false, Bool.false_and])
   have x13 : (e.sa == 0) = false := by simpa using h13
   clear h0 h1 h2 h3 h4 h5 h6 h7 h8 h9 h10 h11 h12 h13 EM
   as_aux_lemma =>
     go_wp2
     go_ret
     exact ⟨by rw [FIN.out]; rfl, bw.out⟩
 have x13 : (e.sa == 0) = true := by simpa using h13
 by_cases h14 : e.dik = 0
 rotate_left
 · have FIN : Hid (e.empty = false) := hid (by rw [EM.out]; simp only [Ev.z_dk, decide_eq_false h14, Bool.and_false])
   have x14 : ((e.dik : Int) == 0) = false := by simp [h14]
   clear h0 h1 h2 h3 h4 h5 h6 h7 h8 h9 h10 h11 h12 h13 h14 EM
   as_aux_lemma =>
     go_wp2
     go_ret
     exact ⟨by rw [FIN.out]; rfl, bw.out⟩
 have x14 : ((e.dik : Int) == 0) = true := by simp [h14]
 have FIN : Hid (e.empty = true) := hid (by rw [EM.out]; simp only [Ev.z_a, decide_eq_true h0, Ev.z_nb, decide_eq_true h1, Ev.z_nm, decide_eq_true h2, Ev.z_wh, decide_eq_true h3, Ev.z_cd, decide_eq_true h4, Ev.z_fr, decide_eq_true h5, Ev.z_op, decide_eq_true h6, Ev.z_en, decide_eq_true h7, Ev.z_lk, decide_eq_true h8, Ev.z_rc, decide_eq_true h9, Ev.z_rn, decide_eq_true h10, Ev.z_rk, decide_eq_true h11, Ev.z_sn, decide_eq_true h12, Ev.z_sa, decide_eq_true h13, Ev.z_dk, decide_eq_true h14, Bool.and_true])
 clear h0 h1 h2 h3 h4 h5 h6 h7 h8 h9 h10 h11 h12 h13 h14 EM
 as_aux_lemma =>
   go_wp2
   go_ret
   exact ⟨by rw [FIN.out]; rfl, bw.out⟩
end Go.Proofs.YtfeppannfcbakaaGreatDoor
