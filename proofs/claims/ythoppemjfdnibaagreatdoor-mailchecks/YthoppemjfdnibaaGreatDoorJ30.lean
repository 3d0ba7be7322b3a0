import Derived.Test.YthoppemjfdnibaaGreatDoorJ29
namespace Go.Proofs.YthoppemjfdnibaaGreatDoor
open Go.RowKit
set_option linter.unusedVariables false

/-- The lists of a message that was lent, as they are read. -/
theorem Lt.ml {w : World} {m m' : Ms} {li : List ByteArray} {le lx : List Ent} {ls ls' : List Sh} {ld : List (List UInt8)} (hl : Ml w m li le ls lx) (h : Lt w m m' li le ls ls' lx ld) : Ml w m' li le ls' lx := by
  have e1 : m'.rl = m.rl := (congrArg Ms.rl h.eq).trans rfl
  have e2 : m'.el = m.el := (congrArg Ms.el h.eq).trans rfl
  have e3 : m'.sl = m.sl := (congrArg Ms.sl h.eq).trans rfl
  have e4 : m'.xl = m.xl := (congrArg Ms.xl h.eq).trans rfl
  have i1 := h.it
  obtain ⟨ao, c, e, hc, hx⟩ := i1
  simp only [Value.slice.injEq] at e
  obtain ⟨ea, el, ec⟩ := e
  refine ⟨⟨m'.ra, m'.rp, by rw [e1, hl.nr], by rw [← hl.nr]; have := h.ci; omega, ?_⟩, h.en.take, h.sh.take, h.ex.take, by rw [e1, hl.nr], by rw [e2, hl.ne], by rw [e3, hl.ns, h.sl.1], by rw [e4, hl.nx], by rw [e1]; exact hl.br, by rw [e2]; exact hl.be, by rw [e3]; exact hl.bs, by rw [e4]; exact hl.bx⟩
  rcases hx with hx | ⟨g, o, ho, hg, hcell⟩
  · simp at hx
  · right
    refine ⟨g, o, by rw [ea, ho], hg, fun j hj => ?_⟩
    rw [hcell j (by simp; omega), List.getElem_append_left hj]
theorem Reads.shorter {w : World} {ao : Option Addr} {n c k : Nat} {l l2 : List UInt8} (h : Reads w (.slice ao n c) (l ++ l2)) (hk : k = l.length) : ReadsW w (.slice ao k c) l := by
  obtain ⟨ao', c', e, hc, hx⟩ := h
  simp only [Value.slice.injEq] at e
  obtain ⟨rfl, _, rfl⟩ := e
  subst hk
  rcases hx with ⟨rfl, h0, rfl⟩ | ⟨g, o, rfl, hg, hcell⟩
  · obtain ⟨rfl, _⟩ := List.append_eq_nil_iff.1 h0
    exact Or.inl ⟨none, 0, rfl, Nat.le_refl _, Or.inl ⟨rfl, rfl, rfl⟩⟩
  · refine Or.inl ⟨_, c, rfl, by rw [List.length_append] at hc; omega, Or.inr ⟨g, o, rfl, hg, fun j u hu => hcell j u ?_⟩⟩
    rw [cellsB_append, List.getElem?_append_left (List.getElem?_eq_some_iff.1 hu).1]
    exact hu
set_option maxHeartbeats 6400000 in
set_option maxRecDepth 1000000 in
/-- A message that was lent is the same. -/
theorem sameMsg_lt {w : World} {m m' : Ms} {li : List ByteArray} {le lx : List Ent} {ls ls' : List Sh} {ld : List (List UInt8)} (hl : Ml w m li le ls lx) (hd : ShD w ls ld) (ht : Lt w m m' li le ls ls' lx ld) (hI : (li.length + 1) * 16 ≤ 140737488355328) (hB : ∀ l ∈ ld, l.length ≤ 140737488355000) :
    Calls Tryz.prog 27 #[.agg m'.cells.toArray, .agg m.cells.toArray] w fun e w' => e = .returned (.bool true) ∧ Below w.heap.size w w' := by
  have hl2 := ht.ml hl
  have Ek : Hid (m'.k = m.k) := hid ((congrArg Ms.k ht.eq).trans rfl)
  have Ef : Hid (m'.f = m.f) := hid ((congrArg Ms.f ht.eq).trans rfl)
  have Et : Hid (m'.t = m.t) := hid ((congrArg Ms.t ht.eq).trans rfl)
  have Ev : Hid (m'.v = m.v) := hid ((congrArg Ms.v ht.eq).trans rfl)
  have En : Hid (m'.n = m.n) := hid ((congrArg Ms.n ht.eq).trans rfl)
  have Ec : Hid (m'.c = m.c) := hid ((congrArg Ms.c ht.eq).trans rfl)
  have Eo : Hid (m'.o = m.o) := hid ((congrArg Ms.o ht.eq).trans rfl)
  have El : Hid (m'.l = m.l) := hid ((congrArg Ms.l ht.eq).trans rfl)
  have Eq : Hid (m'.q = m.q) := hid ((congrArg Ms.q ht.eq).trans rfl)
  have Eh : Hid (m'.h = m.h) := hid ((congrArg Ms.h ht.eq).trans rfl)
  have Eok : Hid (m'.ok = m.ok) := hid ((congrArg Ms.ok ht.eq).trans rfl)
  have Eonm : Hid (m'.onm = m.onm) := hid ((congrArg Ms.onm ht.eq).trans rfl)
  have Eotx : Hid (m'.otx = m.otx) := hid ((congrArg Ms.otx ht.eq).trans rfl)
  have Eon : Hid (m'.on = m.on) := hid ((congrArg Ms.on ht.eq).trans rfl)
  have Eom : Hid (m'.om = m.om) := hid ((congrArg Ms.om ht.eq).trans rfl)
  have Erc : Hid (m'.rc = m.rc) := hid ((congrArg Ms.rc ht.eq).trans rfl)
  have Ern : Hid (m'.rn = m.rn) := hid ((congrArg Ms.rn ht.eq).trans rfl)
  have Erl : Hid (m'.rl = m.rl) := hid ((congrArg Ms.rl ht.eq).trans rfl)
  have Eel : Hid (m'.el = m.el) := hid ((congrArg Ms.el ht.eq).trans rfl)
  have Ecf : Hid (m'.cf = m.cf) := hid ((congrArg Ms.cf ht.eq).trans rfl)
  have Ecb : Hid (m'.cb = m.cb) := hid ((congrArg Ms.cb ht.eq).trans rfl)
  have Esl : Hid (m'.sl = m.sl) := hid ((congrArg Ms.sl ht.eq).trans rfl)
  have Exl : Hid (m'.xl = m.xl) := hid ((congrArg Ms.xl ht.eq).trans rfl)
  have C69 : Hid (∀ W : World, Calls Tryz.prog 69 #[opV m.ok m.onm m.otx m.on m.om, opV m.ok m.onm m.otx m.on m.om] W fun e w' => e = .returned (.bool true) ∧ Below W.heap.size W w') := hid (fun W => sameOp69 _ _ _ _ _)
  have C70 : Hid (∀ W : World, Below w.heap.size w W → Calls Tryz.prog 70 #[.slice m'.ra m.rl m'.rp, .slice m.ra m.rl m.rp] W fun e w' => e = .returned (.bool true) ∧ Below W.heap.size W w') := hid (fun W hW => sameTexts_true (by have := hl2.it.later hW; rw [Erl.out] at this; exact this) (hl.it.later hW) (by omega))
  have C71 : Hid (∀ W : World, Below w.heap.size w W → Calls Tryz.prog 71 #[.slice m'.ea m.el m'.ep, .slice m.ea m.el m.ep] W fun e w' => e = .returned (.bool true) ∧ Below W.heap.size W w') := hid (fun W hW => by
    have h1 := hl.be
    rw [hl.ne] at h1 ⊢
    exact ents71 (hl2.en.later hW) (hl.en.later hW) _ _ h1)
  have C71x : Hid (∀ W : World, Below w.heap.size w W → Calls Tryz.prog 71 #[.slice m'.xa m.xl m'.xp, .slice m.xa m.xl m.xp] W fun e w' => e = .returned (.bool true) ∧ Below W.heap.size W w') := hid (fun W hW => by
    have h1 := hl.bx
    rw [hl.nx] at h1 ⊢
    exact ents71 (hl2.ex.later hW) (hl.ex.later hW) _ _ h1)
  have C72 : Hid (∀ W : World, Below w.heap.size w W → Calls Tryz.prog 72 #[.slice m'.sa m.sl m'.sp, .slice m.sa m.sl m.sp] W fun e w' => e = .returned (.bool true) ∧ Below W.heap.size W w') := hid (fun W hW => by
    have h1 := hl.bs
    rw [hl.ns] at h1 ⊢
    refine sheets72 (hl2.sh.later hW) (hl.sh.later hW) ht.sl.1 hd.1 (fun i s s' l q1 q2 q3 => ?_) hB _ _ h1
    obtain ⟨p1, p2, p3, p4, p5, p6, p7⟩ := ht.sl.2 i s s' l q1 q2 q3
    refine ⟨p1, p2, (Reads.shorter (l := l) (l2 := List.replicate 8 165) p7 (by omega)).below hW, (hd.2 i s l q1 q3).below hW⟩)
  obtain ⟨b1, hb1⟩ : ∃ b, Hid (b = w.heap.size) := ⟨_, hid rfl⟩
  obtain ⟨b2', hb2⟩ : ∃ b, Hid (b = w.heap.size + 1) := ⟨_, hid rfl⟩
  have W2 : Hid (MsAt ((w.alloc (.cells m'.cells.toArray 34)).alloc (.cells m.cells.toArray 34)) b1 m' ∧ MsAt ((w.alloc (.cells m'.cells.toArray 34)).alloc (.cells m.cells.toArray 34)) b2' m ∧ Below w.heap.size w ((w.alloc (.cells m'.cells.toArray 34)).alloc (.cells m.cells.toArray 34))) := hid (by
    refine ⟨by rw [hb1.out]; exact (MsAt.new w m').under (ba _ _), ?_, b2 (ba _ _) (ba _ _)⟩
    have := MsAt.new (w.alloc (.cells m'.cells.toArray 34)) m
    simp only [World.size_alloc] at this
    rw [hb2.out]
    exact this)
  clear hl hd ht hI hB hl2
  generalize hPC : m'.cells.toArray = PC at W2 ⊢
  generalize hPD : m.cells.toArray = PD at W2 ⊢
  clear hPC hPD
  go_enter Tryz.func27, Tryz.ntmps27
  go_upto_region 1 with fail
  simp only [← hb1.out]
  have e2 : b1 + 1 = b2' := by rw [hb1.out, hb2.out]
  simp only [e2]
  clear e2
  generalize (w.alloc (.cells PC 34)).alloc (.cells PD 34) = w2 at W2 ⊢
  have c0 : w2.cell? ⟨b1, 0, none⟩ = some (.int .i64 m.k) := by rw [← Ek.out]; exact W2.out.1 0 _ rfl
  have d0 : w2.cell? ⟨b2', 0, none⟩ = some (.int .i64 m.k) := W2.out.2.1 0 _ rfl
  have c1 : w2.cell? ⟨b1, 1, none⟩ = some (.int .i64 m.f) := by rw [← Ef.out]; exact W2.out.1 1 _ rfl
  have d1 : w2.cell? ⟨b2', 1, none⟩ = some (.int .i64 m.f) := W2.out.2.1 1 _ rfl
  have c2 : w2.cell? ⟨b1, 2, none⟩ = some (.int .i64 m.t) := by rw [← Et.out]; exact W2.out.1 2 _ rfl
  have d2 : w2.cell? ⟨b2', 2, none⟩ = some (.int .i64 m.t) := W2.out.2.1 2 _ rfl
  have c3 : w2.cell? ⟨b1, 3, none⟩ = some (.int .i64 m.v) := by rw [← Ev.out]; exact W2.out.1 3 _ rfl
  have d3 : w2.cell? ⟨b2', 3, none⟩ = some (.int .i64 m.v) := W2.out.2.1 3 _ rfl
  have c4 : w2.cell? ⟨b1, 4, none⟩ = some (.int .i64 m.n) := by rw [← En.out]; exact W2.out.1 4 _ rfl
  have d4 : w2.cell? ⟨b2', 4, none⟩ = some (.int .i64 m.n) := W2.out.2.1 4 _ rfl
  have c5 : w2.cell? ⟨b1, 5, none⟩ = some (.int .i64 m.c) := by rw [← Ec.out]; exact W2.out.1 5 _ rfl
  have d5 : w2.cell? ⟨b2', 5, none⟩ = some (.int .i64 m.c) := W2.out.2.1 5 _ rfl
  have c6 : w2.cell? ⟨b1, 6, none⟩ = some (.int .i64 m.o) := by rw [← Eo.out]; exact W2.out.1 6 _ rfl
  have d6 : w2.cell? ⟨b2', 6, none⟩ = some (.int .i64 m.o) := W2.out.2.1 6 _ rfl
  have c7 : w2.cell? ⟨b1, 7, none⟩ = some (.int .i64 m.l) := by rw [← El.out]; exact W2.out.1 7 _ rfl
  have d7 : w2.cell? ⟨b2', 7, none⟩ = some (.int .i64 m.l) := W2.out.2.1 7 _ rfl
  have c8 : w2.cell? ⟨b1, 8, none⟩ = some (.int .i64 m.q) := by rw [← Eq.out]; exact W2.out.1 8 _ rfl
  have d8 : w2.cell? ⟨b2', 8, none⟩ = some (.int .i64 m.q) := W2.out.2.1 8 _ rfl
  have c9 : w2.cell? ⟨b1, 9, none⟩ = some (.bool m.h) := by rw [← Eh.out]; exact W2.out.1 9 _ rfl
  have d9 : w2.cell? ⟨b2', 9, none⟩ = some (.bool m.h) := W2.out.2.1 9 _ rfl
  have c10 : w2.cell? ⟨b1, 10, none⟩ = some (.int .i64 m.ok) := by rw [← Eok.out]; exact W2.out.1 10 _ rfl
  have d10 : w2.cell? ⟨b2', 10, none⟩ = some (.int .i64 m.ok) := W2.out.2.1 10 _ rfl
  have c11 : w2.cell? ⟨b1, 11, none⟩ = some (.string m.onm) := by rw [← Eonm.out]; exact W2.out.1 11 _ rfl
  have d11 : w2.cell? ⟨b2', 11, none⟩ = some (.string m.onm) := W2.out.2.1 11 _ rfl
  have c12 : w2.cell? ⟨b1, 12, none⟩ = some (.string m.otx) := by rw [← Eotx.out]; exact W2.out.1 12 _ rfl
  have d12 : w2.cell? ⟨b2', 12, none⟩ = some (.string m.otx) := W2.out.2.1 12 _ rfl
  have c13 : w2.cell? ⟨b1, 13, none⟩ = some (.int .i64 m.on) := by rw [← Eon.out]; exact W2.out.1 13 _ rfl
  have d13 : w2.cell? ⟨b2', 13, none⟩ = some (.int .i64 m.on) := W2.out.2.1 13 _ rfl
  have c14 : w2.cell? ⟨b1, 14, none⟩ = some (.int .i64 m.om) := by rw [← Eom.out]; exact W2.out.1 14 _ rfl
  have d14 : w2.cell? ⟨b2', 14, none⟩ = some (.int .i64 m.om) := W2.out.2.1 14 _ rfl
  go_wp2_with fail
  refine (C69.out _).mono ?_
  rintro e w3 ⟨rfl, BB⟩
  have W3 : Hid (MsAt w3 b1 m' ∧ MsAt w3 b2' m ∧ Below w.heap.size w w3) := hid ⟨W2.out.1.under BB, W2.out.2.1.under BB, b2 W2.out.2.2 BB⟩
  clear c0 d0 c1 d1 c2 d2 c3 d3 c4 d4 c5 d5 c6 d6 c7 d7 c8 d8 c9 d9 c10 d10 c11 d11 c12 d12 c13 d13 c14 d14 BB W2
  have c15 : w3.cell? ⟨b1, 15, none⟩ = some (.int .i64 m.rc) := by rw [← Erc.out]; exact W3.out.1 15 _ rfl
  have d15 : w3.cell? ⟨b2', 15, none⟩ = some (.int .i64 m.rc) := W3.out.2.1 15 _ rfl
  have c16 : w3.cell? ⟨b1, 16, none⟩ = some (.int .i64 m.rn) := by rw [← Ern.out]; exact W3.out.1 16 _ rfl
  have d16 : w3.cell? ⟨b2', 16, none⟩ = some (.int .i64 m.rn) := W3.out.2.1 16 _ rfl
  have c17 : w3.cell? ⟨b1, 17, none⟩ = some (.slice m'.ra m.rl m'.rp) := by rw [← Erl.out]; exact W3.out.1 17 _ rfl
  have d17 : w3.cell? ⟨b2', 17, none⟩ = some (.slice m.ra m.rl m.rp) := W3.out.2.1 17 _ rfl
  go_wp2_with fail
  refine (C70.out _ W3.out.2.2).mono ?_
  rintro e w4 ⟨rfl, BB⟩
  have W4 : Hid (MsAt w4 b1 m' ∧ MsAt w4 b2' m ∧ Below w.heap.size w w4) := hid ⟨W3.out.1.under BB, W3.out.2.1.under BB, b2 W3.out.2.2 BB⟩
  clear c15 d15 c16 d16 c17 d17 BB W3
  have c18 : w4.cell? ⟨b1, 18, none⟩ = some (.slice m'.ea m.el m'.ep) := by rw [← Eel.out]; exact W4.out.1 18 _ rfl
  have d18 : w4.cell? ⟨b2', 18, none⟩ = some (.slice m.ea m.el m.ep) := W4.out.2.1 18 _ rfl
  go_wp2_with fail
  refine (C71.out _ W4.out.2.2).mono ?_
  rintro e w5 ⟨rfl, BB⟩
  have W5 : Hid (MsAt w5 b1 m' ∧ MsAt w5 b2' m ∧ Below w.heap.size w w5) := hid ⟨W4.out.1.under BB, W4.out.2.1.under BB, b2 W4.out.2.2 BB⟩
  clear c18 d18 BB W4
  have c19 : w5.cell? ⟨b1, 19, none⟩ = some (.int .i64 m.cf) := by rw [← Ecf.out]; exact W5.out.1 19 _ rfl
  have d19 : w5.cell? ⟨b2', 19, none⟩ = some (.int .i64 m.cf) := W5.out.2.1 19 _ rfl
  have c20 : w5.cell? ⟨b1, 20, none⟩ = some (.int .i64 m.cb) := by rw [← Ecb.out]; exact W5.out.1 20 _ rfl
  have d20 : w5.cell? ⟨b2', 20, none⟩ = some (.int .i64 m.cb) := W5.out.2.1 20 _ rfl
  have c21 : w5.cell? ⟨b1, 21, none⟩ = some (.slice m'.sa m.sl m'.sp) := by rw [← Esl.out]; exact W5.out.1 21 _ rfl
  have d21 : w5.cell? ⟨b2', 21, none⟩ = some (.slice m.sa m.sl m.sp) := W5.out.2.1 21 _ rfl
  go_wp2_with fail
  refine (C72.out _ W5.out.2.2).mono ?_
  rintro e w6 ⟨rfl, BB⟩
  have W6 : Hid (MsAt w6 b1 m' ∧ MsAt w6 b2' m ∧ Below w.heap.size w w6) := hid ⟨W5.out.1.under BB, W5.out.2.1.under BB, b2 W5.out.2.2 BB⟩
  clear c19 d19 c20 d20 c21 d21 BB W5
  have c22 : w6.cell? ⟨b1, 22, none⟩ = some (.slice m'.xa m.xl m'.xp) := by rw [← Exl.out]; exact W6.out.1 22 _ rfl
  have d22 : w6.cell? ⟨b2', 22, none⟩ = some (.slice m.xa m.xl m.xp) := W6.out.2.1 22 _ rfl
  go_wp2_with fail
  refine (C71x.out _ W6.out.2.2).mono ?_
  rintro e w7 ⟨rfl, BB⟩
  have B7 := hid (b2 W6.out.2.2 BB)
  clear BB
  go_wp2
  go_ret
  exact ⟨rfl, B7.out⟩
end Go.Proofs.YthoppemjfdnibaaGreatDoor

namespace Go.Proofs.YthoppemjfdnibaaGreatDoor
open Go.RowKit
set_option linter.unusedVariables false

set_option maxHeartbeats 6400000 in
set_option maxRecDepth 1000000 in
/-- A message that was lent is as it was. -/
theorem still17 {w : World} {m m' : Ms} {li : List ByteArray} {le lx : List Ent} {ls ls' : List Sh} {ld : List (List UInt8)} (hl : Ml w m li le ls lx) (hd : ShD w ls ld) (ht : Lt w m m' li le ls ls' lx ld) (hI : (li.length + 1) * 16 ≤ 140737488355328) (hE : (le.length + 1) * 72 ≤ 140737488355328) (hX : (lx.length + 1) * 72 ≤ 140737488355328) (hS : (ls.length + 1) * 40 ≤ 140737488355328) (hB : ∀ l ∈ ld, l.length ≤ 140737488355000) :
    Calls Tryz.prog 17 #[.agg m'.cells.toArray, .agg m.cells.toArray] w fun e w' => e = .returned (.bool true) ∧ Below w.heap.size w w' := by
  have S27 : Hid (∀ W, Below w.heap.size w W → Calls Tryz.prog 27 #[.agg m'.cells.toArray, .agg m.cells.toArray] W fun e w' => e = .returned (.bool true) ∧ Below W.heap.size W w') := hid (fun W hW => sameMsg_lt (hl.later hW) (hd.later hW) (ht.later hW) hI hB)
  have Erl : m'.rl = m.rl := (congrArg Ms.rl ht.eq).trans rfl
  have Eel : m'.el = m.el := (congrArg Ms.el ht.eq).trans rfl
  have Esl : m'.sl = m.sl := (congrArg Ms.sl ht.eq).trans rfl
  have Exl : m'.xl = m.xl := (congrArg Ms.xl ht.eq).trans rfl
  obtain ⟨b1, hb1⟩ : ∃ b, Hid (b = w.heap.size) := ⟨_, hid rfl⟩
  obtain ⟨b2', hb2⟩ : ∃ b, Hid (b = w.heap.size + 1) := ⟨_, hid rfl⟩
  have A2 : Hid (All (blkC b1 m'.cells 34 :: blkC b2' m.cells 34 :: [inC w]) ((w.alloc (.cells m'.cells.toArray 34)).alloc (.cells m.cells.toArray 34))) := hid (by
    have := (((All.came w).addBlk m'.cells 34).addBlk m.cells 34).swap
    simp only [World.size_alloc] at this
    rw [hb1.out, hb2.out]
    exact this)
  have HL := hid hl
  have HD := hid hd
  have HT := hid ht
  obtain ⟨gi, oi, ei, hgi, hci⟩ := ht.it.at (j := li.length) (by simp)
  obtain ⟨ge, oe, ee, hge, hce⟩ := ht.en le.length bE (by simp)
  obtain ⟨gx, ox, ex, hgx, hcx⟩ := ht.ex lx.length bE (by simp)
  obtain ⟨gs, os, es, hgs, hcs⟩ := ht.sh ls'.length bS (by simp)
  have M17 : Hid (m'.cells.toArray[17]? = some (.slice (some ⟨gi, oi, none⟩) m.rl m'.rp)) := hid (by rw [← ei, ← Erl]; rfl)
  have M18 : Hid (m'.cells.toArray[18]? = some (.slice (some ⟨ge, oe, none⟩) m.el m'.ep)) := hid (by rw [← ee, ← Eel]; rfl)
  have M22 : Hid (m'.cells.toArray[22]? = some (.slice (some ⟨gx, ox, none⟩) m.xl m'.xp)) := hid (by rw [← ex, ← Exl]; rfl)
  have M21 : Hid (m'.cells.toArray[21]? = some (.slice (some ⟨gs, os, none⟩) m.sl m'.sp)) := hid (by rw [← es, ← Esl]; rfl)
  have KI : Hid (w.cell? ⟨gi, oi + m.rl, none⟩ = some (.string beh)) := hid (by rw [hl.nr, hci]; simp)
  have KE : Hid (w.cell? ⟨ge, oe + m.el * 7, none⟩ = some (.int .i64 (-7))) := hid (by rw [hl.ne]; exact hce 0 _ rfl)
  have KX : Hid (w.cell? ⟨gx, ox + m.xl * 7, none⟩ = some (.int .i64 (-7))) := hid (by rw [hl.nx]; exact hcx 0 _ rfl)
  have KS : Hid (w.cell? ⟨gs, os + m.sl * 3, none⟩ = some (.int .i64 (-7))) := hid (by rw [hl.ns, ← ht.sl.1]; exact hcs 0 _ rfl)
  have Hgi := hid hgi
  have Hge := hid hge
  have Hgx := hid hgx
  have Hgs := hid hgs
  have Hes := hid es
  have qi := ht.ci.1
  have qe := ht.ce.1
  have qx := ht.cx.1
  have qs := ht.cs.1
  have ri : m.rl ≤ 8796093022208 := by rw [hl.nr]; omega
  have re : m.el ≤ 8796093022208 := by rw [hl.ne]; omega
  have rx : m.xl ≤ 8796093022208 := by rw [hl.nx]; omega
  have rs : m.sl ≤ 8796093022208 := by rw [hl.ns]; omega
  have HB := hid hB
  have I34 : Hid ((Tryz.prog.info? 34).map (·.size) = some m'.cells.toArray.size) := hid (show (Tryz.prog.info? 34).map (·.size) = some 23 by kernel_rfl)
  have J34 : Hid ((Tryz.prog.info? 34).map (·.size) = some m.cells.toArray.size) := hid (show (Tryz.prog.info? 34).map (·.size) = some 23 by kernel_rfl)
  clear hl hd ht hI hE hX hS hB Erl Eel Esl Exl hgi hge hgx hgs hci hce hcx hcs ei ee ex es
  obtain ⟨PC, hPC⟩ : ∃ PC, Hid (PC = m'.cells.toArray) := ⟨_, hid rfl⟩
  obtain ⟨PD, hPD⟩ : ∃ PD, Hid (PD = m.cells.toArray) := ⟨_, hid rfl⟩
  rw [← hPC.out] at S27 M17 M18 M21 M22 I34
  rw [← hPD.out] at S27 J34
  have HP : Hid (∀ W, All (blkC b1 m'.cells 34 :: blkC b2' m.cells 34 :: [inC w]) W → W.heap[b1]? = some (.cells PC 34 (0, 0)) ∧ W.heap[b2']? = some (.cells PD 34 (0, 0)) ∧ Below w.heap.size w W) := hid (fun W hW => ⟨by rw [hPC.out]; exact hW.1.2.1, by rw [hPD.out]; exact hW.tail.1.2.1, hW.into (by simp)⟩)
  rw [← hPC.out, ← hPD.out] at A2 ⊢
  go_enter Tryz.func17, Tryz.ntmps17
  go_upto_region 1 with fail
  simp only [← hb1.out]
  have e2 : b1 + 1 = b2' := by rw [hb1.out, hb2.out]
  simp only [e2]
  clear e2
  generalize (w.alloc (.cells PC 34)).alloc (.cells PD 34) = w2 at A2 ⊢
  have H2 := hid (HP.out _ A2.out)
  have H21 := hid H2.out.1
  have H22 := hid H2.out.2.1
  go_wp2_with (first | (refine wpList_load_row rfl 34 _ rfl b1 rfl 34 PC (0, 0) _ H21.out Tryz.underlying34 rfl I34.out ?_) | (refine wpList_load_row rfl 34 _ rfl b2' rfl 34 PD (0, 0) _ H22.out Tryz.underlying34 rfl J34.out ?_))
  refine (S27.out _ H2.out.2.2).mono ?_
  rintro e w3 ⟨rfl, BB⟩
  have A3 := hid (A2.out.later BB)
  clear BB A2 S27 H2 H21 H22
  have H3 := hid (HP.out _ A3.out)
  have c17 : w3.cell? ⟨b1, 17, none⟩ = some (.slice (some ⟨gi, oi, none⟩) m.rl m'.rp) := by rw [cell_at H3.out.1]; exact M17.out
  have c18 : w3.cell? ⟨b1, 18, none⟩ = some (.slice (some ⟨ge, oe, none⟩) m.el m'.ep) := by rw [cell_at H3.out.1]; exact M18.out
  have c21 : w3.cell? ⟨b1, 21, none⟩ = some (.slice (some ⟨gs, os, none⟩) m.sl m'.sp) := by rw [cell_at H3.out.1]; exact M21.out
  have c22 : w3.cell? ⟨b1, 22, none⟩ = some (.slice (some ⟨gx, ox, none⟩) m.xl m'.xp) := by rw [cell_at H3.out.1]; exact M22.out
  have k1 : w3.cell? ⟨gi, oi + m.rl, none⟩ = some (.string beh) := cell_under H3.out.2.2 Hgi.out KI.out
  have k2 : w3.cell? ⟨ge, oe + m.el * 7, none⟩ = some (.int .i64 (-7)) := cell_under H3.out.2.2 Hge.out KE.out
  have k3 : w3.cell? ⟨gx, ox + m.xl * 7, none⟩ = some (.int .i64 (-7)) := cell_under H3.out.2.2 Hgx.out KX.out
  have k4 : w3.cell? ⟨gs, os + m.sl * 3, none⟩ = some (.int .i64 (-7)) := cell_under H3.out.2.2 Hgs.out KS.out
  have z1 : ¬ (m'.rp = 0) := by omega
  have z2 : ¬ (m'.ep = 0) := by omega
  have z3 : ¬ (m'.xp = 0) := by omega
  have z4 : ¬ (m'.sp = 0) := by omega
  go_upto_region 7 with fail
  have y1 : IntKind.i64.wrap (m.rl : Int) = (m.rl : Int) := by rw [IntKind.wrap_i64]; omega
  have y2 : IntKind.i64.wrap (m.el : Int) = (m.el : Int) := by rw [IntKind.wrap_i64]; omega
  have y3 : IntKind.i64.wrap (m.xl : Int) = (m.xl : Int) := by rw [IntKind.wrap_i64]; omega
  have y4 : IntKind.i64.wrap (m.sl : Int) = (m.sl : Int) := by rw [IntKind.wrap_i64]; omega
  go_wp2
  clear c17 c18 c21 c22 k1 k2 k3 k4 z1 z2 z3 z4 y1 y2 y3 y4 H3 qi qe qx ri re rx
  have A3 : Hid (All (blkC b1 m'.cells 34 :: blkC b2' m.cells 34 :: [inC w]) w3) := A3
  go_loopw [9] (fun iv wr => ∃ k : Nat, k ≤ m.sl ∧ iv = .int .i64 (k : Int) ∧ Hid (All (blkC b1 m'.cells 34 :: blkC b2' m.cells 34 :: [inC w]) wr)) (fun iv _ => m.sl - (intOf iv).toNat)
  case atStart => exact ⟨0, Nat.zero_le _, rfl, A3⟩
  case round =>
    clear A3
    obtain ⟨k, hk, rfl, A⟩ := hrel
    have H3 := hid (HP.out _ A.out)
    have c21 : wr.cell? ⟨b1, 21, none⟩ = some (.slice (some ⟨gs, os, none⟩) m.sl m'.sp) := by rw [cell_at H3.out.1]; exact M21.out
    by_cases hlt : k < m.sl
    · have hlt2 : Hid (k < ls.length) := hid (by rw [← HL.out.ns]; exact hlt)
      obtain ⟨x, hx⟩ : ∃ x, Hid (ls[k]? = some x) := ⟨_, hid (List.getElem?_eq_getElem hlt2.out)⟩
      obtain ⟨y, hy⟩ : ∃ x, Hid (ls'[k]? = some x) := ⟨_, hid (List.getElem?_eq_getElem (by rw [HT.out.sl.1]; exact hlt2.out))⟩
      obtain ⟨l, hl⟩ : ∃ x, Hid (ld[k]? = some x) := ⟨_, hid (List.getElem?_eq_getElem (by rw [← HD.out.1]; exact hlt2.out))⟩
      obtain ⟨p1, p2, p3, p4, p5, p6, p7⟩ := HT.out.sl.2 k x y l hx.out hy.out hl.out
      obtain ⟨gq, oq, eq, hgq, hcq⟩ := HT.out.sh.take k y hy.out
      rw [Hes.out] at eq
      cases eq
      obtain ⟨gm, om, em, hgm, hcm⟩ := HL.out.sh k x hx.out
      obtain ⟨gd, od, ed, _⟩ := p7.at_u8 0 (by rw [lentB_len]; omega)
      have hll : Hid (l.length ≤ 140737488355000) := hid (HB.out l (List.mem_of_getElem? hl.out))
      have C28 : Hid (∀ W, Below w.heap.size w W → Calls Tryz.prog 28 #[.slice (some ⟨gd, od, none⟩) (y.dl + 8) y.dp, .slice x.da x.dl x.dp] W fun e w' => e = .returned (.bool true) ∧ Below W.heap.size W w') := hid (fun W hW => by
        rw [← ed]
        refine (still_any (p7.below hW) ((HD.out.2 k x l hx.out hl.out).below hW) (by have := hll.out; omega)).mono ?_
        rintro e w' ⟨h1, q, rfl⟩
        exact ⟨h1, bdN _ _⟩)
      have r2 : wr.cell? ⟨gs, os + k * 3 + 2, none⟩ = some (.slice (some ⟨gd, od, none⟩) y.dl y.dp) := by rw [← ed]; exact cell_under H3.out.2.2 hgq (hcq 2 _ rfl)
      have SF : Hid (∀ W, All (blkC b1 m'.cells 34 :: blkC b2' m.cells 34 :: [inC w]) W → W.cell? ⟨b2', 21, none⟩ = some (.slice (some ⟨gm, om, none⟩) m.sl m.sp) ∧ W.cell? ⟨gm, om + k * 3 + 2, none⟩ = some (.slice x.da x.dl x.dp)) := hid (fun W hW => by
        have hh := HP.out _ hW
        refine ⟨?_, cell_under hh.2.2 hgm (hcm 2 _ rfl)⟩
        rw [cell_at hh.2.1, ← em, hPD.out]
        rfl)
      have hyl : y.dl ≤ 140737488355000 := by have := hll.out; omega
      have hyp : y.dl + 8 ≤ y.dp := p5
      have hyz : ¬ (y.dp = 0) := by omega
      have v1 : IntKind.i64.wrap ((y.dl : Int) + 8) = (y.dl : Int) + 8 := by rw [IntKind.wrap_i64]; omega
      have v2 : ((y.dl : Int) + 8).toNat = y.dl + 8 := by omega
      have v3 : (0 : Int) ≤ (y.dl : Int) + 8 := by omega
      have v4 : (y.dl : Int) + 8 ≤ (y.dp : Int) := by omega
      have A0 := hid (A.out.drew)
      have p0 := hid (SF.out _ A0.out)
      have B0 := hid (HP.out _ A0.out).2.2
      have el : decide ((k : Int) < (m.sl : Int)) = true := by simpa using hlt
      clear p1 p2 p3 p4 p5 p6 p7 hcq hcm em ed hgq hgm H3 A
      go_upto_region 13 with fail
      clear r2 c21
      go_region_held3 (fun W => W.cell? ⟨b2', 21, none⟩ = some (.slice (some ⟨gm, om, none⟩) m.sl m.sp) ∧ W.cell? ⟨gm, om + k * 3 + 2, none⟩ = some (.slice x.da x.dl x.dp)) (first | exact p0.out | exact q1.out)
        (first
          | (go_at_call 28; refine (C28.out _ B0.out).mono ?_; rintro e w1 ⟨rfl, hw1⟩; have A1 := hid (A0.out.later hw1); have q1 := hid (SF.out _ A1.out); clear hw1))
      go_wp2
      go_roundw
      case rel => exact ⟨k + 1, by omega, by go_num, A1⟩
      case measure => simp [intOf]; omega
    · have el : decide ((k : Int) < (m.sl : Int)) = false := by simp; omega
      have B3 := hid H3.out.2.2
      clear H3
      go_wp2
      go_ret
      exact ⟨rfl, B3.out⟩
end Go.Proofs.YthoppemjfdnibaaGreatDoor
