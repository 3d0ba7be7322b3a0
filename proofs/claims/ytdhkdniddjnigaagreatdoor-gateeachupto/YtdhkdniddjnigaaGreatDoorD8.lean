import Derived.Test.YtdhkdniddjnigaaGreatDoorD7
namespace Go.Proofs.YtdhkdniddjnigaaGreatDoor
open Go.RowKit
set_option linter.unusedVariables false

theorem Tryz.size27 : (Tryz.prog.info? 42).map (·.size) = some 5 := by kernel_rfl
theorem ret_cell5 {fn : Func} (hf : fn.results = #[.cell 2 42, .tmp 3, .tmp 4]) {R : Ending → World → Prop} {a : Act} {w : World} {b : Nat} {v0 v1 v2 v3 v4 k e : Value} (ht : a.tmps.getD 2 undef = ptr b) (h3 : a.tmps.getD 3 undef = k) (h4 : a.tmps.getD 4 undef = e) (hg : w.heap[b]? = some (.cells #[v0, v1, v2, v3, v4] 42 (0, 0))) (hd : a.defers = []) (hR : R (.returned (.tuple #[.agg #[v0, v1, v2, v3, v4], k, e])) w) : bodyPost Tryz.prog fn R .ret a w := by
  refine bodyPost_ret (v := .tuple #[.agg #[v0, v1, v2, v3, v4], k, e]) ?_ hd hR
  have hp : a.tmps[2]?.getD undef = ptr b := by rw [← ht]; simp
  have hp3 : a.tmps[3]?.getD undef = k := by rw [← h3]; simp
  have hp4 : a.tmps[4]?.getD undef = e := by rw [← h4]; simp
  simp [results, hf, hp, hp3, hp4, asAddr, run_loadVar_row w b 42 42 #[v0, v1, v2, v3, v4] (0, 0) _ hg Tryz.underlying42 rfl (by rw [Tryz.size27]; rfl)]
def zO : OpR := ⟨0, [], [], 0, 0⟩
/-- What is read: the op, how many words, the error. -/
structure RO where
  o : OpR
  k : Nat
  e : Int
def RO.bad (e : Int) : RO := ⟨zO, 0, e⟩
def ROPost (r : RO) (cs : List Comp) (en : Ending) (w' : World) : Prop :=
  en = .returned (.tuple #[opV r.o.k ⟨r.o.nm.toArray⟩ ⟨r.o.tx.toArray⟩ (r.o.n : Int) (r.o.m : Int), .int .i64 (r.k : Int), .int .i64 r.e]) ∧ All cs w'
/-- The fields, letter by letter. -/
def goO : List UInt8 → Ws → OpR → Option OpR
  | [], _, o => some o
  | c :: r, ws, o => if okO c.toNat (ws.getD 0 []) then goO r (ws.drop 1) (setO c.toNat (ws.getD 0 []) o) else none
def chkR8 (o : OpR) : Int := chkO o.k o.nm o.tx o.n o.m
def readO (l : Ws) : RO := if l = [] then .bad 162 else match kindW (l.getD 0 []) with
  | none => .bad 163
  | some k => if l.length < 1 + (ltN k).length then .bad 162 else match goO (ltN k) (l.drop 1) ⟨(k : Int), [], [], 0, 0⟩ with
    | none => .bad 163
    | some o => if chkR8 o ≠ 0 then .bad (chkR8 o) else ⟨o, 1 + (ltN k).length, 0⟩
theorem kindW_lt {x : List UInt8} {k : Nat} (h : kindW x = some k) : 1 ≤ k ∧ k < 9 := by
  have key : ∀ {l : Ws} {a j : Nat}, findW x a l = some j → a ≤ j ∧ j < a + l.length := by
    intro l
    induction l with
    | nil => intro a j h; simp [findW] at h
    | cons y r ih =>
      intro a j h
      rw [findW] at h
      split at h
      · simp only [Option.some.injEq] at h
        subst h
        simp
      · have := ih h
        simp only [List.length_cons]
        omega
  have := key h
  have e : (kN.drop 1).length = 8 := rfl
  omega
theorem set5 {B : Nat} {a b c d e v0 v1 v2 v3 v4 : Value} {cs : List Comp} {w : World} (A : All (blkC B [a, b, c, d, e] 42 :: cs) w) : All (blkC B [v0, v1, v2, v3, v4] 42 :: cs) (((((w.setCell ⟨B, 0, none⟩ v0).setCell ⟨B, 1, none⟩ v1).setCell ⟨B, 2, none⟩ v2).setCell ⟨B, 3, none⟩ v3).setCell ⟨B, 4, none⟩ v4) :=
  ((((A.setBlk 0 v0).setBlk 1 v1).setBlk 2 v2).setBlk 3 v3).setBlk 4 v4
theorem perm4 {α : Type} (a b c d : α) (cs : List α) : (a :: b :: c :: d :: cs).Perm (d :: a :: b :: c :: cs) := by
  refine List.Perm.trans ?_ (List.perm_middle (l₁ := [a, b, c]) (a := d) (l₂ := cs))
  exact List.Perm.refl _

set_option maxHeartbeats 1600000 in
set_option maxRecDepth 1000000 in
theorem ReadOp_any {s : Value} {l : Ws} {cs : List Comp} {w : World} (A : All cs w) (hR : ∀ W, All cs W → Rt W s l) (hV : ∀ W, All cs W → Vars W) (hT : ∀ W, All cs W → Tab W) (hW : ∀ W, All cs W → Wf W) (hl : l.length ≤ 140737488355328) (hs : ∀ x ∈ l, x.length ≤ 140737488355328) :
    Calls Tryz.prog 190 #[s] w (ROPost (readO l) cs) := by
  obtain ⟨ao, c, rfl⟩ := (hR w A).form
  have A0 := hid (A.addBlk [.int .i64 0, .string ⟨#[]⟩, .string ⟨#[]⟩, .int .i64 0, .int .i64 0] 42)
  by_cases h0 : l = []
  · subst h0
    have e1 : readO [] = .bad 162 := rfl
    rw [e1]
    clear A hR hV hT hW hl hs e1
    go_enter Tryz.func190, Tryz.ntmps190
    go_wp2
    exact ret_cell5 rfl rfl rfl rfl A0.out.1.2.1 rfl ⟨rfl, A0.out.tail⟩
  have hpos : 0 < l.length := List.length_pos_iff.2 h0
  have n0 : ((l.length : Int) == 0) = false := by simp; exact h0
  have eR : readO l = match kindW (l.getD 0 []) with
    | none => .bad 163
    | some k => if l.length < 1 + (ltN k).length then .bad 162 else match goO (ltN k) (l.drop 1) ⟨(k : Int), [], [], 0, 0⟩ with
      | none => .bad 163
      | some o => if chkR8 o ≠ 0 then .bad (chkR8 o) else ⟨o, 1 + (ltN k).length, 0⟩ := by unfold readO; rw [if_neg h0]
  rw [eR]
  clear eR
  obtain ⟨g, o, hg, _, hcell⟩ := (hR _ A0.out.tail).at (j := 0) hpos
  subst hg
  rw [Nat.add_zero] at hcell
  have C := hid (kindOf_any (x := l.getD 0 []) (hW _ A0.out.tail))
  unfold kindA at C
  cases hk : kindW (l.getD 0 []) with
  | none =>
    simp only
    rw [hk] at C
    simp only [Option.getD_none, Option.isSome_none] at C
    clear A hR hV hT hW hs hk h0
    generalize ByteArray.mk (l.getD 0 []).toArray = X at *
    generalize l.length = n at *
    go_enter Tryz.func190, Tryz.ntmps190
    go_wp2_with (go_at_call 210; refine C.out.mono ?_; rintro e w1 ⟨rfl, hw1⟩; subst w1)
    exact ret_cell5 rfl rfl rfl rfl A0.out.1.2.1 rfl ⟨rfl, A0.out.tail⟩
  | some k =>
    simp only
    rw [hk] at C
    simp only [Option.getD_some, Option.isSome_some] at C
    obtain ⟨hk1, hk9⟩ := kindW_lt hk
    have hk9' : (k : Int) < 9 := by omega
    obtain ⟨t0, t1⟩ := (hW _ A0.out.tail).2 k hk9
    have L3 := ltN_len k
    have hsz : (⟨(ltN k).toArray⟩ : ByteArray).size = (ltN k).length := by simp [ByteArray.size]
    have wa : IntKind.i64.wrap (1 + ((ltN k).length : Int)) = 1 + (ltN k).length := by rw [IntKind.wrap_i64]; omega
    by_cases hlen : l.length < 1 + (ltN k).length
    · rw [if_pos hlen]
      have hlen' : (l.length : Int) < 1 + ((ltN k).length : Int) := by omega
      clear A hR hV hT hW hs hk h0 hlen
      generalize ByteArray.mk (l.getD 0 []).toArray = X at *
      generalize l.length = n at *
      generalize ByteArray.mk (ltN k).toArray = XL at *
      generalize ByteArray.mk (nmN k).toArray = XN at *
      generalize (ltN k).length = nl at *
      have A1 := hid (A0.out.alloc (.cells #[.string XN, .string XL] 255))
      obtain ⟨y0, y1, y2, y3, y4, ylt⟩ := blk5 A0.out (.head _)
      obtain ⟨f0, f1, f2, f3, f4⟩ := blk5f A0.out
      go_enter Tryz.func190, Tryz.ntmps190
      go_wp2_with (go_at_call 210; refine C.out.mono ?_; rintro e w1 ⟨rfl, hw1⟩; subst w1)
      first | exact ret_cell5 rfl rfl rfl rfl A1.out.1.2.1 rfl ⟨rfl, A1.out.tail⟩ | exact ret_cell5 rfl rfl rfl rfl (set5 A1.out).1.2.1 rfl ⟨rfl, (set5 A1.out).tail⟩
    · rw [if_neg hlen]
      have hlen' : ¬ (l.length : Int) < 1 + ((ltN k).length : Int) := by omega
      have LT : Hid (∀ p, p < (ltN k).length → ((ltN k).getD p 0).toNat = 78 ∨ ((ltN k).getD p 0).toNat = 84 ∨ ((ltN k).getD p 0).toNat = 75 ∨ ((ltN k).getD p 0).toNat = 77) := hid (fun p hp => ltN_in (by
        have : (ltN k).getD p 0 = (ltN k)[p] := by simp [List.getD, hp]
        rw [this]; exact List.getElem_mem hp))
      have HR : Hid (∀ p W, p < (ltN k).length → All cs W → W.cell? ⟨g, o + (1 + p), none⟩ = some (.string ⟨(l.getD (1 + p) []).toArray⟩)) := hid (fun p W hp h => by
        obtain ⟨g', o', e', _, hc⟩ := (hR W h).at (j := 1 + p) (by omega)
        simp only [Option.some.injEq, Addr.mk.injEq, and_true] at e'
        obtain ⟨rfl, rfl⟩ := e'
        exact hc)
      have HX : Hid (∀ p, p < (ltN k).length → (l.getD (1 + p) []).length ≤ 140737488355328) := hid (fun p hp => hs _ (by
        have : l.getD (1 + p) [] = l[1 + p] := by simp [List.getD, show 1 + p < l.length by omega]
        rw [this]; exact List.getElem_mem _))
      have SF : Hid (∀ (c : Nat) (x : List UInt8) (ob : OpR) B ds W, All (blkC B ob.vals 42 :: ds) W → (∀ W, All ds W → All cs W) → x.length ≤ 140737488355328 → (c = 78 ∨ c = 84 ∨ c = 75 ∨ c = 77) → Calls Tryz.prog 211 #[ptr B, .int .i32 (c : Int), .string ⟨x.toArray⟩] W fun e w' => e = .returned (.bool (okO c x)) ∧ All (blkC B (setO c x ob).vals 42 :: ds) w') := hid (fun c x ob B ds W h hcs hx hc => setField_any h (hV W (hcs W h.tail)) hx hc)
      have CK : Hid (∀ (ob : OpR) ds W, All ds W → (∀ W, All ds W → All cs W) → Calls Tryz.prog 169 #[opV ob.k ⟨ob.nm.toArray⟩ ⟨ob.tx.toArray⟩ (ob.n : Int) (ob.m : Int)] W fun e w' => e = .returned (.int .i64 (chkR8 ob)) ∧ All ds w') := hid (fun ob ds W h hcs => (chkO_any (hT W (hcs W h))).mono fun e w' ⟨he, hb⟩ => ⟨he, h.later hb⟩)
      have GO : Hid (∀ p ob, p < (ltN k).length → goO ((ltN k).drop p) (l.drop (1 + p)) ob = if okO ((ltN k).getD p 0).toNat (l.getD (1 + p) []) then goO ((ltN k).drop (p + 1)) (l.drop (1 + (p + 1))) (setO ((ltN k).getD p 0).toNat (l.getD (1 + p) []) ob) else none) := hid (fun p ob hp => by
        rw [List.drop_eq_getElem_cons hp, goO]
        have e1 : (ltN k).getD p 0 = (ltN k)[p] := by simp [List.getD, hp]
        have e2 : (l.drop (1 + p)).getD 0 [] = l.getD (1 + p) [] := by simp [List.getD]
        rw [e1, e2, List.drop_drop]
        rfl)
      have GE : Hid (∀ ob, goO ((ltN k).drop (ltN k).length) (l.drop (1 + (ltN k).length)) ob = some ob) := hid (fun ob => by rw [List.drop_length, goO])
      generalize hG : goO (ltN k) (l.drop 1) ⟨(k : Int), [], [], 0, 0⟩ = G
      have HG : Hid (goO ((ltN k).drop 0) (l.drop (1 + 0)) ⟨(k : Int), [], [], 0, 0⟩ = G) := hid (by rw [List.drop_zero]; exact hG)
      clear hG
      have AN : Hid (G = none → (match G with | none => RO.bad 163 | some o => if chkR8 o ≠ 0 then .bad (chkR8 o) else ⟨o, 1 + (ltN k).length, 0⟩) = .bad 163) := hid (fun h => by rw [h])
      have AS : Hid (∀ ob, G = some ob → (match G with | none => RO.bad 163 | some o => if chkR8 o ≠ 0 then .bad (chkR8 o) else ⟨o, 1 + (ltN k).length, 0⟩) = if chkR8 ob ≠ 0 then .bad (chkR8 ob) else ⟨ob, 1 + (ltN k).length, 0⟩) := hid (fun ob h => by rw [h])
      generalize (match G with | none => RO.bad 163 | some o => if chkR8 o ≠ 0 then .bad (chkR8 o) else ⟨o, 1 + (ltN k).length, 0⟩) = ANS at *
      have A2 := A0.out.addBlk [.string ⟨(nmN k).toArray⟩, .string ⟨(ltN k).toArray⟩] 255
      have A3 := A2.addBlk [.int .i64 (k : Int), .string ⟨#[]⟩, .string ⟨#[]⟩, .int .i64 0, .int .i64 0] 42
      have A4 := A3.addIt ⟨(ltN k).toArray⟩
      have es : ∀ (W : World) (ob : Obj), (W.alloc ob).heap.size = W.heap.size + 1 := fun W ob => by simp
      simp only [es] at A4
      clear es
      clear A hR hV hT hW hs hk h0 hlen A2 A3
      generalize hlt : ltN k = lt at *
      clear hlt
      generalize ByteArray.mk (l.getD 0 []).toArray = X at *
      generalize l.length = n at *
      generalize hXL : ByteArray.mk lt.toArray = XL at *
      have HXL := hid hXL
      clear hXL
      generalize ByteArray.mk (nmN k).toArray = XN at *
      go_enter Tryz.func190, Tryz.ntmps190
      go_wp2_with (go_at_call 210; refine C.out.mono ?_; rintro e w1 ⟨rfl, hw1⟩; subst w1)
      have B4 := hid A4
      clear A4 hcell C t0 t1 A0
      generalize w.heap.size + 1 + 1 + 1 = IT at *
      generalize w.heap.size + 1 + 1 = B9 at *
      generalize w.heap.size + 1 = B7 at *
      generalize w.heap.size = B2 at *
      go_loopw [10, 11] (fun u1 u2 wr => ∃ (p : Nat) (ob : OpR), p ≤ lt.length ∧ Hid (goO (lt.drop p) (l.drop (1 + p)) ob = G) ∧ Hid (All (itC IT XL p :: blkC B9 ob.vals 42 :: blkC B7 [.string XN, .string XL] 255 :: blkC B2 [.int .i64 0, .string ⟨#[]⟩, .string ⟨#[]⟩, .int .i64 0, .int .i64 0] 42 :: cs) wr)) (fun u1 u2 wr => lt.length - wr.iterPos IT)
      case atStart => exact ⟨0, ⟨(k : Int), [], [], 0, 0⟩, Nat.zero_le _, HG, B4⟩
      case round =>
        clear B4 HG
        obtain ⟨p, ob, hp, hGo, HA⟩ := hrel
        by_cases hlt : p < lt.length
        · have hn := next_at (lt := lt) (p := p) (g := IT) (w := wr) (by rw [HXL.out]; exact HA.out) hlt (by have := LT.out p hlt; omega)
          rw [HXL.out] at hn
          have A5 := hid (HA.out.setIt (p + 1))
          have m0 : Hid (wr.iterPos IT = p) := hid (iterPos_of HA.out.1.2.1)
          clear HA
          generalize wr.iterAt IT XL (p + 1) = w2 at hn A5
          have hcell := HR.out p w2 hlt A5.out.tail.tail.tail.tail
          have Q := hid (SF.out _ _ _ _ _ _ A5.out.swap (fun W h => h.tail.tail.tail) (HX.out p hlt) (LT.out p hlt))
          have wp : IntKind.i64.wrap (1 + (p : Int)) = 1 + p := by rw [IntKind.wrap_i64]; omega
          have tn : (1 + (p : Int)).toNat = 1 + p := by omega
          have i0 : 0 ≤ 1 + (p : Int) := by omega
          have i1 : 1 + (p : Int) < n := by omega
          have go := hGo.out
          rw [GO.out p ob hlt] at go
          have hgo := hid go
          clear go hGo GO GE SF HR HX LT CK hlen'
          by_cases hok : okO (lt.getD p 0).toNat (l.getD (1 + p) []) = true
          · rw [hok] at Q
            rw [if_pos hok] at hgo
            clear hok
            generalize setO (lt.getD p 0).toNat (l.getD (1 + p) []) ob = ob2 at *
            generalize ByteArray.mk (l.getD (1 + p) []).toArray = Y at *
            generalize (lt.getD p 0).toNat = CC at *
            go_wp2_with (go_at_call 211; refine Q.out.mono ?_; rintro e w3 ⟨rfl, A6⟩; have B6 := hid A6.swap; clear A6; refine Hid.out ?_)
            refine hid ?_
            have m6 : Hid (w3.iterPos IT = p + 1) := hid (iterPos_of B6.out.1.2.1)
            clear Q A5 hn hcell
            go_wp2
            go_roundw
            case rel => exact ⟨p + 1, ob2, hlt, hgo, B6⟩
            case measure => rw [m0.out, m6.out]; omega
          · rw [if_neg hok] at hgo
            have hok2 : okO (lt.getD p 0).toNat (l.getD (1 + p) []) = false := by simpa using hok
            rw [hok2] at Q
            have eA := AN.out hgo.out.symm
            clear hok hok2 AN AS
            subst eA
            generalize setO (lt.getD p 0).toNat (l.getD (1 + p) []) ob = ob2 at *
            generalize ByteArray.mk (l.getD (1 + p) []).toArray = Y at *
            generalize (lt.getD p 0).toNat = CC at *
            go_wp2_with (go_at_call 211; refine Q.out.mono ?_; rintro e w3 ⟨rfl, A6⟩; have B6 := hid (A6.perm (perm4 _ _ _ _ _)); clear A6; refine Hid.out ?_)
            refine hid ?_
            clear Q A5 hn hcell
            obtain ⟨y0, y1, y2, y3, y4, ylt⟩ := blk5 B6.out (.head _)
            obtain ⟨f0, f1, f2, f3, f4⟩ := blk5f B6.out
            go_wp2
            exact ret_cell5 rfl rfl rfl rfl (set5 B6.out).1.2.1 rfl ⟨rfl, (set5 B6.out).tail.tail.tail.tail⟩
        · have hn := next_end (lt := lt) (p := p) (g := IT) (w := wr) (by rw [HXL.out]; exact HA.out) hlt
          have ep : p = lt.length := by omega
          subst ep
          have hG := hGo.out
          rw [GE.out] at hG
          have eA := AS.out ob hG.symm
          clear AN AS hG hGo GO GE SF HR HX LT
          obtain ⟨ok, onm, otx, on, om⟩ := ob
          have HB := HA
          unfold OpR.vals at HB
          simp only at HB
          have Q := hid (CK.out ⟨ok, onm, otx, on, om⟩ _ _ HB.out (fun W h => h.tail.tail.tail.tail))
          simp only at Q
          clear CK HA
          obtain ⟨x0, x1, x2, x3, x4, xlt⟩ := blk5 HB.out (.tail _ (.head _))
          by_cases hX : chkR8 ⟨ok, onm, otx, on, om⟩ ≠ 0
          · rw [if_pos hX] at eA
            have hX' : (chkR8 ⟨ok, onm, otx, on, om⟩ != 0) = true := by simpa using hX
            subst eA
            clear hX
            generalize chkR8 ⟨ok, onm, otx, on, om⟩ = XX at *
            generalize ByteArray.mk onm.toArray = Y1 at *
            generalize ByteArray.mk otx.toArray = Y2 at *
            go_wp2_with (go_at_call 169; refine Q.out.mono ?_; rintro e w3 ⟨rfl, A6⟩; have B6 := hid (A6.perm (perm4 _ _ _ _ _)); clear A6; refine Hid.out ?_)
            refine hid ?_
            clear Q HB hn x0 x1 x2 x3 x4
            obtain ⟨y0, y1, y2, y3, y4, ylt⟩ := blk5 B6.out (.head _)
            obtain ⟨f0, f1, f2, f3, f4⟩ := blk5f B6.out
            go_wp2
            exact ret_cell5 rfl rfl rfl rfl (set5 B6.out).1.2.1 rfl ⟨rfl, (set5 B6.out).tail.tail.tail.tail⟩
          · rw [if_neg hX] at eA
            have hX' : chkR8 ⟨ok, onm, otx, on, om⟩ = 0 := Classical.byContradiction hX
            rw [hX'] at Q
            have ek : Hid (((1 + lt.length : Nat) : Int) = 1 + (lt.length : Int)) := hid (by omega)
            have eP : Hid (∀ en w', en = .returned (.tuple #[opV ok ⟨onm.toArray⟩ ⟨otx.toArray⟩ (on : Int) (om : Int), .int .i64 (1 + (lt.length : Int)), .int .i64 0]) → All cs w' → ROPost ANS cs en w') := hid (fun en w' h1 h2 => by subst eA; exact ⟨by rw [h1, ← ek.out], h2⟩)
            clear hX hX' eA
            generalize ByteArray.mk onm.toArray = Y1 at *
            generalize ByteArray.mk otx.toArray = Y2 at *
            go_wp2_with (go_at_call 169; refine Q.out.mono ?_; rintro e w3 ⟨rfl, A6⟩; have B6 := hid (A6.perm (perm4 _ _ _ _ _)); clear A6; refine Hid.out ?_)
            refine hid ?_
            clear Q HB hn x0 x1 x2 x3 x4
            obtain ⟨y0, y1, y2, y3, y4, ylt⟩ := blk5 B6.out (.head _)
            obtain ⟨x0, x1, x2, x3, x4, xlt⟩ := blk5 B6.out (.tail _ (.tail _ (.head _)))
            obtain ⟨f0, f1, f2, f3, f4⟩ := blk5f B6.out
            have B7' := hid (set5 (v0 := .int .i64 ok) (v1 := .string Y1) (v2 := .string Y2) (v3 := .int .i64 (on : Int)) (v4 := .int .i64 (om : Int)) B6.out)
            go_wp2
            exact ret_cell5 rfl rfl rfl rfl B7'.out.1.2.1 rfl (eP.out _ _ rfl B7'.out.tail.tail.tail.tail)
end Go.Proofs.YtdhkdniddjnigaaGreatDoor
