import Derived.Test.YtblojlaifnmimaaGreatDoorJ17
import Derived.Test.YtblojlaifnmimaaGreatDoorJ16
namespace Go.Proofs.YtblojlaifnmimaaGreatDoor
open Go.RowKit
set_option linter.unusedVariables false

theorem numsW_at {l : Ws} {i : Nat} (hi : i < l.length) : numsW (l.drop i) = match numW (l.getD i []) with
    | none => none
    | some n => (numsW (l.drop (i + 1))).map fun r => (n : Int) :: r := by
  rw [List.drop_eq_getElem_cons hi]
  have e : l.getD i [] = l[i] := by simp [List.getD, hi]
  rw [e, numsW]
  cases numW l[i] with
  | none => rfl
  | some n =>
    simp only
    cases numsW (l.drop (i + 1)) <;> rfl
/-- A config on its way. -/
def cfz (ns : List Int) : List Value := cI ns ++ List.replicate (10 - ns.length) (.int .i64 0)
theorem cfz_len {ns : List Int} (h : ns.length ≤ 10) : (cfz ns).length = 10 := by simp [cfz, cI_len]; omega
theorem cfz_nil : cfz [] = cI zC := rfl
theorem cfz_full {ns : List Int} (h : ns.length = 10) : cfz ns = cI ns := by simp [cfz, h]
theorem cfz_at {ns : List Int} (h : ns.length < 10) : (cfz ns)[ns.length]? = some (.int .i64 0) := by
  unfold cfz
  rw [List.getElem?_append_right (by rw [cI_len]; exact Nat.le_refl _), cI_len, Nat.sub_self, List.getElem?_replicate, if_pos (by omega)]
theorem cfz_set {ns : List Int} (h : ns.length < 10) (n : Int) : (cfz ns).set ns.length (.int .i64 n) = cfz (ns ++ [n]) := by
  unfold cfz
  rw [List.set_append_right _ _ (by rw [cI_len]; exact Nat.le_refl _), cI_len, Nat.sub_self]
  obtain ⟨m, hm⟩ : ∃ m, 10 - ns.length = m + 1 := ⟨9 - ns.length, by omega⟩
  rw [hm, List.replicate_succ, List.set_cons_zero]
  have e : 10 - (ns ++ [n]).length = m := by simp; omega
  rw [e]
  simp [cI]
/-- A head as it is read. -/
def HPost (r : Option (List Int)) (cs : List Comp) (e : Ending) (w' : World) : Prop := e = .returned (.tuple #[.agg (cI (r.getD zC)).toArray, .bool r.isSome]) ∧ All cs w'
theorem numsW_len : ∀ {l : Ws} {r : List Int}, numsW l = some r → r.length = l.length
  | [], r, h => by simp only [numsW, Option.some.injEq] at h; subst h; rfl
  | x :: t, r, h => by
    rw [numsW] at h
    split at h
    · simp at h
    · split at h
      · simp at h
      · rename_i l2 hl
        simp only [Option.some.injEq] at h
        subst h
        simp [numsW_len hl]
theorem headR_len {l : Ws} {c : List Int} (h : headR l = some c) : c.length = 10 := by
  unfold headR at h
  split at h
  · rename_i h2
    rw [numsW_len h, List.length_drop, h2.1]
  · simp at h
theorem zC_len : zC.length = 10 := rfl

theorem fleet_eq {x : List UInt8} : ((⟨x.toArray⟩ : ByteArray).toList == ([102, 108, 101, 101, 116] : List UInt8)) = decide (x = fleetW) := by
  rw [Lib.toList_data, Bool.eq_iff_iff, beq_iff_eq, decide_eq_true_eq]
  exact Iff.rfl

set_option maxHeartbeats 1600000 in
set_option maxRecDepth 1000000 in
theorem readHead_any {v : Value} {l : Ws} {cs : List Comp} {w : World} (A : All cs w) (hR : ∀ W, All cs W → Rt W v l) (hE : ∀ W, All cs W → En W) (hl : l.length ≤ 100000000000000) (hs : ∀ x ∈ l, x.length ≤ 140737488355328) :
    Calls Tryz.prog 71 #[v] w (HPost (headR l) cs) := by
  obtain ⟨ao, c, rfl⟩ := (hR w A).form
  have A0 := hid (A.addBlk (cI zC) 24)
  have IZ : Hid ((Tryz.prog.info? 24).map (·.size) = some (cI zC).toArray.size) := hid Tryz.i24
  have OZ := hid (cI_one zC)
  have ez : (cI zC).toArray = #[.int .i64 0, .int .i64 0, .int .i64 0, .int .i64 0, .int .i64 0, .int .i64 0, .int .i64 0, .int .i64 0, .int .i64 0, .int .i64 0] := rfl
  by_cases hb : l.length = 11 ∧ l.getD 0 [] = fleetW
  · obtain ⟨h11, hf⟩ := hb
    have eH : headR l = numsW (l.drop 1) := by unfold headR; rw [if_pos ⟨h11, hf⟩]
    rw [eH]
    obtain ⟨g, o, hao, _, h1⟩ := (hR _ A0.out.tail).at (j := 0) (by omega)
    subst hao
    rw [Nat.add_zero] at h1
    have ne : ((⟨(l.getD 0 []).toArray⟩ : ByteArray).toList == ([102, 108, 101, 101, 116] : List UInt8)) = true := by
      rw [fleet_eq]; exact decide_eq_true hf
    have CE : Hid (∀ W i, All cs W → i < 10 → W.cell? ⟨g, o + (1 + i), none⟩ = some (.string ⟨(l.getD (1 + i) []).toArray⟩)) := hid (fun W i h hi => by
      obtain ⟨g', o', e, _, h2⟩ := (hR W h).at (j := 1 + i) (by omega)
      simp only [Option.some.injEq, Addr.mk.injEq, and_true] at e
      rw [e.1, e.2]; exact h2)
    have NU : Hid (∀ W i, All cs W → i < 10 → Calls Tryz.prog 95 #[.string ⟨(l.getD (1 + i) []).toArray⟩] W fun e w' => e = .returned (numA (l.getD (1 + i) [])) ∧ Below W.heap.size W w') := hid (fun W i h hi => Number_any (hE W h).v (by
      have hm : l.getD (1 + i) [] ∈ l := by
        have hlt : 1 + i < l.length := by omega
        rw [List.getD, List.getElem?_eq_getElem hlt]
        exact List.getElem_mem hlt
      exact hs _ hm))
    have NA : Hid (∀ i, i < 10 → numsW (l.drop (1 + i)) = match numW (l.getD (1 + i) []) with
      | none => none
      | some n => (numsW (l.drop (1 + i + 1))).map fun r => (n : Int) :: r) := hid (fun i hi => numsW_at (by omega))
    have NE : Hid (numsW (l.drop 11) = some []) := hid (by rw [List.drop_of_length_le (by omega)]; rfl)
    have A1 := hid (A0.out.addBlk (cI zC) 24)
    have esz : (w.alloc (.cells (cI zC).toArray 24)).heap.size = w.heap.size + 1 := by simp
    rw [esz, ez] at A1
    have M := hid (numbers_any (B := w.heap.size + 1) (w := (w.alloc (.cells #[.int .i64 0, .int .i64 0, .int .i64 0, .int .i64 0, .int .i64 0, .int .i64 0, .int .i64 0, .int .i64 0, .int .i64 0, .int .i64 0] 24)).alloc (.cells #[.int .i64 0, .int .i64 0, .int .i64 0, .int .i64 0, .int .i64 0, .int .i64 0, .int .i64 0, .int .i64 0, .int .i64 0, .int .i64 0] 24)))
    rw [h11]
    obtain ⟨G, hG⟩ : ∃ G, G = numsW (l.drop 1) := ⟨_, rfl⟩
    rw [← hG]
    have ND : Hid (G = (numsW (l.drop (1 + 0))).map fun r => [] ++ r) := hid (by rw [hG]; cases numsW (l.drop 1) <;> rfl)
    clear hG
    clear eH hR hE hs A hl h11 hf
    generalize ByteArray.mk (l.getD 0 []).toArray = X at *
    rw [ez] at h1
    go_enter Tryz.func71, Tryz.ntmps71
    go_wp2_with (go_at_call 51; refine M.out.mono ?_; rintro e w1 ⟨rfl, B1⟩; have A2 := hid (A1.out.later B1); clear B1)
    clear A0 A1 M h1 esz
    generalize w.heap.size + 1 = C0 at *
    generalize w.heap.size = R at *
    have IX := index_nums C0
    generalize hNP : numsP C0 = NP at *
    clear hNP
    go_loopw [20] (fun iv wr => ∃ (i : Nat) (ns : List Int), i ≤ 10 ∧ ns.length = i ∧ iv = .int .i64 (i : Int) ∧ Hid (G = (numsW (l.drop (1 + i))).map fun r => ns ++ r) ∧ Hid (All (blkC C0 (cfz ns) 24 :: blkC R (cI zC) 24 :: cs) wr)) (fun iv _ => 10 - (intOf iv).toNat)
    case atStart => exact ⟨0, [], by omega, rfl, rfl, ND, A2⟩
    case round =>
      obtain ⟨i, ns, hi, hni, rfl, hGo, HA⟩ := hrel
      clear A2 ND
      have HN := hid hni
      clear hni
      by_cases hlt : i < 10
      · have hlt' : (i : Int) < 10 := by omega
        have ix := IX i hlt
        have ce := CE.out wr i HA.out.tail.tail hlt
        have Q := hid (NU.out wr i HA.out.tail.tail hlt)
        have na := hid (NA.out i hlt)
        unfold numA at Q
        have wp1 : IntKind.i64.wrap (1 + (i : Int)) = 1 + i := by rw [IntKind.wrap_i64]; omega
        generalize hx : l.getD (1 + i) [] = x at *
        clear hx NU NA CE IX NE
        cases hn : numW x with
        | none =>
          rw [hn] at Q na
          simp only [Option.getD_none, Option.isSome_none] at Q
          have fin : Hid (G = none) := hid (by rw [hGo.out, na.out]; rfl)
          clear hGo na hn
          generalize ByteArray.mk x.toArray = Y at *
          go_wp2_with (first | (go_at_call 95; refine Q.out.mono ?_; rintro e w2 ⟨rfl, B2⟩; have K2 := hid ((HA.out.later B2).swap); clear B2; have H2 := hid K2.out.1.2.1; have K3 := hid (K2.out.setRow (vs' := cI zC))) | (refine wpList_build rfl 24 _ rfl (by kernel_rfl) ?_) | (refine wpList_store_row rfl 24 _ _ rfl R (cI zC).toArray rfl (by kernel_rfl) 24 _ H2.out IZ.out rfl OZ.out ?_))
          refine ret2 rfl rfl rfl (ld24 K3.out.1.2.1 rfl) rfl ?_
          exact ⟨by rw [fin.out]; rfl, K3.out.tail.tail⟩
        | some n =>
          rw [hn] at Q na
          simp only [Option.getD_some, Option.isSome_some] at Q
          have nx : Hid (G = (numsW (l.drop (1 + (i + 1)))).map fun r => (ns ++ [(n : Int)]) ++ r) := hid (by
            rw [hGo.out, na.out]
            show (Option.map _ (numsW (l.drop (1 + i + 1)))).map _ = _
            rw [Nat.add_assoc 1 i 1]
            cases numsW (l.drop (1 + (i + 1))) with
            | none => rfl
            | some r => simp)
          have hnl : ns.length < 10 := by rw [HN.out]; exact hlt
          have ca := cfz_at hnl
          have st := cfz_set hnl (n : Int)
          rw [HN.out] at ca st
          have CA := hid ca
          have ST := hid st
          clear hGo na hn ca st hnl
          generalize ByteArray.mk x.toArray = Y at *
          go_wp2_with (go_at_call 95; refine Q.out.mono ?_; rintro e w2 ⟨rfl, B2⟩; have K2 := hid (HA.out.later B2); clear B2; obtain ⟨y5, f5, _⟩ := blk_at K2.out (.head _) CA.out; refine Hid.out ?_)
          refine hid ?_
          have K3 := hid (K2.out.setBlk i (.int .i64 (n : Int)))
          rw [ST.out] at K3
          go_wp2
          go_roundw
          case rel => exact ⟨i + 1, ns ++ [(n : Int)], by omega, by rw [List.length_append, HN.out]; rfl, by go_num, nx, K3⟩
          case measure => simp [intOf]; omega
      · have hlt' : ¬ (i : Int) < 10 := by omega
        have e10 : i = 10 := by omega
        have hn10 : ns.length = 10 := by rw [HN.out]; exact e10
        have fin : Hid (G = some ns) := hid (by rw [hGo.out, e10, NE.out]; simp)
        have K0 := hid HA.out
        rw [cfz_full hn10] at K0
        have HC := hid K0.out.1.2.1
        have K2 := hid K0.out.swap
        have H2 := hid K2.out.1.2.1
        have K3 := hid (K2.out.setRow (vs' := cI ns))
        have IN : Hid ((Tryz.prog.info? 24).map (·.size) = some (cI ns).toArray.size) := hid (by rw [Tryz.i24, List.size_toArray, cI_len, hn10])
        have ON := hid (cI_one ns)
        have ZN : Hid ((cI zC).toArray.size = (cI ns).toArray.size) := hid (by rw [List.size_toArray, List.size_toArray, cI_len, cI_len, hn10]; rfl)
        have LN : Hid ((cI ns).toArray.size = 10) := hid (by rw [List.size_toArray, cI_len, hn10])
        clear e10 hn10 HA NE NA CE NU hGo HN K0
        generalize hCN : cI ns = CN at *
        have HCN := hid hCN
        clear hCN
        go_wp2_with (first | (refine wpList_load_row rfl 24 _ rfl C0 rfl 24 CN.toArray (0, 0) _ HC.out Tryz.underlying24 rfl IN.out ?_) | (refine wpList_store_row rfl 24 _ _ rfl R CN.toArray rfl rfl 24 _ H2.out IN.out ZN.out ON.out ?_))
        refine ret2 rfl rfl rfl (ld24 K3.out.1.2.1 LN.out) rfl ?_
        exact ⟨by rw [fin.out, ← HCN.out]; rfl, K3.out.tail.tail⟩
  · have eH : headR l = none := by unfold headR; rw [if_neg hb]
    rw [eH]
    have fin : ∀ W, All (blkC w.heap.size (cI zC) 24 :: cs) W → HPost none cs (.returned (.tuple #[.agg (cI zC).toArray, .bool false])) W := fun W h => ⟨rfl, h.tail⟩
    have H1 := hid A0.out.1.2.1
    have A4 := hid (A0.out.setRow (vs' := cI zC))
    by_cases h11 : l.length = 11
    · have hf : l.getD 0 [] ≠ fleetW := fun e => hb ⟨h11, e⟩
      obtain ⟨g, o, hao, _, h1⟩ := (hR _ A0.out.tail).at (j := 0) (by omega)
      subst hao
      rw [Nat.add_zero] at h1
      have ne : ((⟨(l.getD 0 []).toArray⟩ : ByteArray).toList == ([102, 108, 101, 101, 116] : List UInt8)) = false := by
        rw [fleet_eq]; exact decide_eq_false hf
      have hn11 : ((l.length : Int) != 11) = false := by rw [h11]; rfl
      clear hb hf eH hR hE hs A
      rw [h11]
      generalize ByteArray.mk (l.getD 0 []).toArray = X at *
      go_enter Tryz.func71, Tryz.ntmps71
      rw [ez] at H1 h1 A4
      go_wp2_with (first | (refine wpList_build rfl 24 _ rfl (by kernel_rfl) ?_) | (refine wpList_store_row rfl 24 _ _ rfl w.heap.size (cI zC).toArray rfl (by kernel_rfl) 24 _ H1.out IZ.out rfl OZ.out ?_))
      refine ret2 rfl rfl rfl (ld24 A4.out.1.2.1 rfl) rfl ?_
      exact fin _ A4.out
    · have hn11 : ((l.length : Int) != 11) = true := by simp; omega
      clear hb eH hR hE hs A
      generalize l.length = n at *
      go_enter Tryz.func71, Tryz.ntmps71
      rw [ez] at H1 A4
      go_wp2_with (first | (refine wpList_build rfl 24 _ rfl (by kernel_rfl) ?_) | (refine wpList_store_row rfl 24 _ _ rfl w.heap.size (cI zC).toArray rfl (by kernel_rfl) 24 _ H1.out IZ.out rfl OZ.out ?_))
      refine ret2 rfl rfl rfl (ld24 A4.out.1.2.1 rfl) rfl ?_
      exact fin _ A4.out
end Go.Proofs.YtblojlaifnmimaaGreatDoor

namespace Go.Proofs.YtblojlaifnmimaaGreatDoor
open Go.RowKit
set_option linter.unusedVariables false

theorem setMid_eq : ∀ (us vs : List Value) (o : Nat), o + us.length ≤ vs.length → setMid vs o us = vs.take o ++ us ++ vs.drop (o + us.length)
  | [], vs, o, h => by simp [setMid]
  | u :: us, vs, o, h => by
    have h' : o < vs.length := by simp only [List.length_cons] at h; omega
    rw [setMid, setMid_eq us (vs.set o u) (o + 1) (by simp only [List.length_cons, List.length_set] at *; omega)]
    rw [List.take_set, List.drop_set_of_lt (by omega)]
    have e1 : (vs.take (o + 1)).set o u = vs.take o ++ [u] := by
      rw [List.take_add_one, List.getElem?_eq_getElem h', Option.toList_some, List.set_append_right _ _ (by rw [List.length_take]; omega), List.length_take, Nat.min_eq_left (by omega), Nat.sub_self]
      rfl
    rw [e1, List.append_assoc, List.append_assoc, List.append_assoc]
    simp only [List.length_cons, List.cons_append, List.nil_append]
    rw [show o + 1 + us.length = o + (us.length + 1) by omega]
/-- A reader's cells. -/
def rdB (c : List Int) (v : Value) (hd : Bool) : List Value := cI c ++ [v, .bool hd]
theorem rdB_set {c d : List Int} {v : Value} {hd : Bool} (h : c.length = 10) (h2 : d.length = 10) : setMid (rdB c v hd) 0 (cI d) = rdB d v hd := by
  rw [setMid_eq _ _ _ (by simp [rdB, cI_len, h, h2])]
  unfold rdB
  simp [cI_len, h, h2]
theorem rdB_at {c : List Int} {v : Value} {hd : Bool} (h : c.length = 10) : (rdB c v hd)[10]? = some v ∧ (rdB c v hd)[11]? = some (.bool hd) := by
  unfold rdB
  constructor
  · rw [List.getElem?_append_right (by rw [cI_len, h]; exact Nat.le_refl _), cI_len, h]; rfl
  · rw [List.getElem?_append_right (by rw [cI_len, h]; decide), cI_len, h]; rfl
theorem rdB_set10 {c : List Int} {v u : Value} {hd : Bool} (h : c.length = 10) : (rdB c v hd).set 10 u = rdB c u hd := by
  unfold rdB
  rw [List.set_append_right _ _ (by rw [cI_len, h]; exact Nat.le_refl _), cI_len, h]; rfl
theorem rdB_set11 {c : List Int} {v : Value} {hd b : Bool} (h : c.length = 10) : (rdB c v hd).set 11 (.bool b) = rdB c v b := by
  unfold rdB
  rw [List.set_append_right _ _ (by rw [cI_len, h]; decide), cI_len, h]; rfl
theorem rdB_len {c : List Int} {v : Value} {hd : Bool} (h : c.length = 10) : (rdB c v hd).length = 12 := by simp [rdB, cI_len, h]
/-- A row of steps. -/
abbrev spC (v : Value) (ss : List Sp) : Comp := rowC 43 10 v ss.length (ss.flatMap Sp.vals)
def RdP (B : Nat) (s : Ps) (v : Value) (cs : List Comp) (w : World) : Prop := All (blkC B (rdB (s.c.getD zC) v s.c.isSome) 45 :: spC v s.ss :: cs) w
def LPost (B : Nat) (r : Pl) (cs : List Comp) (e : Ending) (w' : World) : Prop := match r with
  | .bad k => e = .returned (.int .i64 k) ∧ All cs w'
  | .go s => e = .returned (.int .i64 0) ∧ ∃ v, RdP B s v cs w'
/-- The check of a config. -/
theorem ten {c : List Int} (h : c.length = 10) : ∃ a0 a1 a2 a3 a4 a5 a6 a7 a8 a9, c = [a0, a1, a2, a3, a4, a5, a6, a7, a8, a9] := by
  match c, h with
  | [a0, a1, a2, a3, a4, a5, a6, a7, a8, a9], _ => exact ⟨a0, a1, a2, a3, a4, a5, a6, a7, a8, a9, rfl⟩
theorem cfgC_any {c : List Int} {w : World} (h : c.length = 10) : Calls Tryz.prog 24 #[.agg (cI c).toArray] w fun e w' => e = .returned (.int .i64 (cfgL c)) ∧ Below w.heap.size w w' := by
  obtain ⟨a0, a1, a2, a3, a4, a5, a6, a7, a8, a9, rfl⟩ := ten h
  exact cfg_any a0 a1 a2 a3 a4 a5 a6 a7 a8 a9
theorem cfgR_any {c : List Int} {w : World} (h : c.length = 10) : Calls Tryz.prog 22 #[.agg (cI c).toArray] w fun e w' => e = .returned (.int .i64 (cfgL c)) ∧ Below w.heap.size w w' := by
  obtain ⟨a0, a1, a2, a3, a4, a5, a6, a7, a8, a9, rfl⟩ := ten h
  exact cfg_ref a0 a1 a2 a3 a4 a5 a6 a7 a8 a9

set_option maxHeartbeats 1600000 in
set_option maxRecDepth 1000000 in
theorem head_any {B : Nat} {s : Ps} {sv v : Value} {l : Ws} {cs : List Comp} {w : World} (A : RdP B s sv cs w) (hc : s.c = none) (hR : ∀ W, All cs W → Rt W v l) (hE : ∀ W, All cs W → En W) (hl : l.length ≤ 100000000000000) (hs : ∀ x ∈ l, x.length ≤ 140737488355328) :
    Calls Tryz.prog 36 #[ptr B, v] w (LPost B (headL s l) cs) := by
  have C := hid (readHead_any A (fun W h => hR W h.tail.tail) (fun W h => hE W h.tail.tail) hl hs)
  unfold RdP at A
  rw [hc] at A C
  simp only [Option.getD_none, Option.isSome_none] at A C
  unfold HPost at C
  obtain ⟨ao, c, rfl⟩ := (hR w A.tail.tail).form
  clear hR hE hl hs
  have ez : (cI zC).toArray = #[.int .i64 0, .int .i64 0, .int .i64 0, .int .i64 0, .int .i64 0, .int .i64 0, .int .i64 0, .int .i64 0, .int .i64 0, .int .i64 0] := rfl
  generalize l.length = nl at *
  cases hH : headR l with
  | none =>
    have e1 : headL s l = .bad 170 := by unfold headL; rw [hH]
    rw [e1]
    rw [hH] at C
    simp only [Option.getD_none, Option.isSome_none] at C
    have O := hid (cI_one zC)
    have I : Hid ((Tryz.prog.info? 24).map (·.size) = some (cI zC).toArray.size) := hid Tryz.i24
    clear e1 hH
    have HN : Hid (∀ W : World, (W.alloc (.cells #[.int .i64 0, .int .i64 0, .int .i64 0, .int .i64 0, .int .i64 0, .int .i64 0, .int .i64 0, .int .i64 0, .int .i64 0, .int .i64 0] 24)).heap[W.heap.size]? = some (.cells #[.int .i64 0, .int .i64 0, .int .i64 0, .int .i64 0, .int .i64 0, .int .i64 0, .int .i64 0, .int .i64 0, .int .i64 0, .int .i64 0] 24 (0, 0))) := hid (fun W => heap_alloc_new W _)
    rw [ez] at C
    go_enter Tryz.func36, Tryz.ntmps36
    go_wp2_with (go_at_call 71; refine C.out.mono ?_; rintro e w1 ⟨rfl, A1⟩; have K1 := hid (A1.addBlk (cI zC) 24); clear A1)
    go_ret
    exact ⟨rfl, K1.out.tail.tail.tail⟩
  | some cc =>
    have hcl := headR_len hH
    have e1 : headL s l = if cfgL cc ≠ 0 then .bad (cfgL cc) else .go ⟨some cc, s.ss⟩ := by unfold headL; rw [hH]
    rw [e1]
    rw [hH] at C
    simp only [Option.getD_some, Option.isSome_some] at C
    have O := hid (cI_one cc)
    have I : Hid ((Tryz.prog.info? 24).map (·.size) = some (cI cc).toArray.size) := hid (by rw [Tryz.i24, List.size_toArray, cI_len, hcl])
    have Z : Hid ((#[.int .i64 0, .int .i64 0, .int .i64 0, .int .i64 0, .int .i64 0, .int .i64 0, .int .i64 0, .int .i64 0, .int .i64 0, .int .i64 0] : Array Value).size = (cI cc).toArray.size) := hid (by show 10 = (cI cc).toArray.size; rw [List.size_toArray, cI_len, hcl])
    have HN : Hid (∀ W : World, (W.alloc (.cells #[.int .i64 0, .int .i64 0, .int .i64 0, .int .i64 0, .int .i64 0, .int .i64 0, .int .i64 0, .int .i64 0, .int .i64 0, .int .i64 0] 24)).heap[W.heap.size]? = some (.cells #[.int .i64 0, .int .i64 0, .int .i64 0, .int .i64 0, .int .i64 0, .int .i64 0, .int .i64 0, .int .i64 0, .int .i64 0, .int .i64 0] 24 (0, 0))) := hid (fun W => heap_alloc_new W _)
    have CF : Hid (∀ W, Calls Tryz.prog 24 #[.agg (cI cc).toArray] W fun e w' => e = .returned (.int .i64 (cfgL cc)) ∧ Below W.heap.size W w') := hid (fun W => cfgC_any hcl)
    have S10 : Hid (setMid (rdB zC sv false) 0 (cI cc) = rdB cc sv false) := hid (rdB_set zC_len hcl)
    have S11 : Hid ((rdB cc sv false).set 11 (.bool true) = rdB cc sv true) := hid (rdB_set11 hcl)
    have T10 : Hid ((rdB zC sv false).length = 12) := hid (rdB_len zC_len)
    have Y11 : Hid ((rdB cc sv false)[11]? = some (.bool false)) := hid (rdB_at hcl).2
    have L10 : Hid ((cI cc).toArray.size = 10) := hid (by rw [List.size_toArray, cI_len, hcl])
    clear e1 hH ez hcl
    generalize hCN : cI cc = CN at *
    clear hCN
    generalize hCF : cfgL cc = CE at *
    clear hCF
    by_cases hE : CE ≠ 0
    · have hE' : (CE != 0) = true := by simpa using hE
      rw [if_pos hE]
      clear hE
      go_enter Tryz.func36, Tryz.ntmps36
      go_upto_region 4 with (first | (go_at_call 71; refine C.out.mono ?_; rintro e w1 ⟨rfl, A1⟩; have K1 := hid (A1.addBlk CN 24); clear A1) | (refine wpList_store_row rfl 24 _ _ rfl w1.heap.size CN.toArray rfl rfl 24 _ (HN.out w1) I.out Z.out O.out ?_; rw [World.setRow_alloc_new]))
      clear C HN Z A
      generalize hG : w1.heap.size = G at *
      generalize w1.alloc (.cells CN.toArray 24) = w2 at *
      have HG := hid K1.out.1.2.1
      go_wp2_with (first | (refine wpList_load_row rfl 24 _ rfl G rfl 24 CN.toArray (0, 0) _ HG.out Tryz.underlying24 rfl I.out ?_) | (go_at_call 24; refine (CF.out _).mono ?_; rintro e w3 ⟨rfl, B3⟩; have K3 := hid (K1.out.later B3); clear B3))
      go_ret
      exact ⟨rfl, K3.out.tail.tail.tail⟩
    · have hE0 : CE = 0 := Classical.byContradiction hE
      rw [if_neg hE]
      subst hE0
      clear hE
      go_enter Tryz.func36, Tryz.ntmps36
      go_upto_region 4 with (first | (go_at_call 71; refine C.out.mono ?_; rintro e w1 ⟨rfl, A1⟩; have K1 := hid (A1.addBlk CN 24); clear A1) | (refine wpList_store_row rfl 24 _ _ rfl w1.heap.size CN.toArray rfl rfl 24 _ (HN.out w1) I.out Z.out O.out ?_; rw [World.setRow_alloc_new]))
      clear C HN Z A
      generalize hG : w1.heap.size = G at *
      generalize w1.alloc (.cells CN.toArray 24) = w2 at *
      have HG := hid K1.out.1.2.1
      go_upto_region 7 with (first | (refine wpList_load_row rfl 24 _ rfl G rfl 24 CN.toArray (0, 0) _ HG.out Tryz.underlying24 rfl I.out ?_) | (go_at_call 24; refine (CF.out _).mono ?_; rintro e w3 ⟨rfl, B3⟩; have K3 := hid (K1.out.later B3); clear B3))
      clear K1 HG CF
      have HG := hid K3.out.1.2.1
      have K4 := hid K3.out.swap
      have TH : Hid (w3.there B 0 CN.toArray.size) := hid (fun j hj => by
        have hb := K4.out.1.2.1
        refine ⟨?_, free_at hb _⟩
        rw [cell_at hb, List.getElem?_toArray, List.getElem?_eq_getElem (by rw [T10.out]; rw [L10.out] at hj; omega)]
        rfl)
      have K5 := hid (All.setMid CN _ 0 _ K4.out)
      rw [S10.out] at K5
      have el : CN.toArray.toList = CN := by simp
      have y11 : (w3.setCells B 0 CN).cell? ⟨B, 11, none⟩ = some (.bool false) := (blk_at K5.out (.head _) Y11.out).1
      have f11 : (w3.setCells B 0 CN).frozen? ⟨B, 11, none⟩ = false := (blk_at K5.out (.head _) Y11.out).2.1
      have K6 := hid (K5.out.setBlk 11 (.bool true))
      rw [S11.out] at K6
      go_wp2_with (first | (refine wpList_load_row rfl 24 _ rfl G rfl 24 CN.toArray (0, 0) _ HG.out Tryz.underlying24 rfl I.out ?_) | (refine wpList_store_mid rfl 24 _ _ rfl B 0 CN.toArray rfl rfl TH.out I.out O.out ?_; rw [el]))
      go_ret
      exact ⟨rfl, sv, K6.out.del⟩
end Go.Proofs.YtblojlaifnmimaaGreatDoor

namespace Go.Proofs.YtblojlaifnmimaaGreatDoor
open Go.RowKit
set_option linter.unusedVariables false

/-- There will be a word. -/
def live (s : St) (ws : Ws) : Prop := match s with
  | .ahead => ws ≠ []
  | .closed => ws ≠ []
  | _ => True
theorem live_step {s s' : St} {ws ws' : Ws} {k : Nat} {b : UInt8} (h : stepW s ws k b = .go s' ws') (hl : live s ws) : live s' ws' := by
  cases s <;> simp only [stepW] at h <;> (repeat' split at h) <;> simp only [Out.go.injEq, reduceCtorEq] at h <;> obtain ⟨rfl, rfl⟩ := h <;> simp_all [live]
theorem live_run : ∀ (t : List UInt8) (s : St) (ws : Ws) (k : Nat) (res : Ws), live s ws → runW s ws k t = .ok res → res ≠ []
  | [], s, ws, k, res, hl, h => by
    rw [runW] at h
    cases s <;> simp only [finW, Ans.ok.injEq, reduceCtorEq] at h <;> subst h <;> simp_all [live]
  | b :: t, s, ws, k, res, hl, h => by
    rw [runW] at h
    cases hs : stepW s ws k b with
    | go s' ws' => rw [hs] at h; exact live_run t s' ws' (k + 1) res (live_step hs hl) h
    | bad j => rw [hs] at h; simp at h
theorem run_pass : ∀ (l : List UInt8) (k : Nat) (res : Ws), passW l = false → runW .ahead [] k l = .ok res → res ≠ []
  | [], k, res, hp, h => by simp [passW] at hp
  | b :: t, k, res, hp, h => by
    rw [runW] at h
    by_cases h32 : b.toNat = 32
    · have hb : b = 32 := u8_eq (by rw [h32]; rfl)
      have e : stepW .ahead [] k b = .go .ahead [] := by simp [stepW, h32]
      rw [e] at h
      rw [passW, if_pos (Or.inl hb)] at hp
      exact run_pass t (k + 1) res hp h
    · cases hs : stepW .ahead [] k b with
      | bad j => rw [hs] at h; simp at h
      | go s' ws' =>
        rw [hs] at h
        refine live_run t s' ws' (k + 1) res ?_ h
        simp only [stepW, if_neg h32] at hs
        split at hs
        · simp only [Out.go.injEq] at hs; obtain ⟨rfl, rfl⟩ := hs; trivial
        · split at hs
          · simp only [Out.go.injEq] at hs; obtain ⟨rfl, rfl⟩ := hs; trivial
          · simp at hs
theorem words_ne {l : List UInt8} (hp : passW l = false) (he : (splitW l).err = 0) : (splitW l).ws ≠ [] :=
  run_pass l 0 _ hp (splitW_ok (err_ok he)).2
theorem words_sz (l : List UInt8) : wsz (splitW l).ws ≤ 16384 := by
  unfold splitW
  split
  · simp [Ans.ws, wsz]
  · have := runW_wsz l .ahead [] 0
    simp only [St.held, wsz, List.length_nil, List.map_nil, List.sum_nil] at this ⊢
    omega
theorem mem_wsz {ws : Ws} {x : List UInt8} (h : x ∈ ws) : x.length ≤ wsz ws := by
  unfold wsz
  induction ws with
  | nil => cases h
  | cons y r ih =>
    simp only [List.map_cons, List.sum_cons, List.length_cons]
    rcases List.mem_cons.1 h with rfl | h
    · omega
    · have := ih h; omega
theorem words_in (l : List UInt8) : ∀ x ∈ (splitW l).ws, x.length ≤ 140737488355328 := fun x hx => by
  have := mem_wsz hx
  have := words_sz l
  omega
theorem words_len (l : List UInt8) : (splitW l).ws.length ≤ 16384 := splitW_size l

theorem Tryz.info43 : (Tryz.prog.info? 43).map (fun i => (i.zero, i.size, i.bytes)) = some (some (.agg Sp.zero.vals.toArray), 10, 96) := by kernel_rfl
/-- One step more. -/
theorem app_sp {W : World} {K : Nat} {x : Sp} {v : Value} {l : List Sp} {cs : List Comp} (A : All (spC v l :: cs) W) (hK : W.heap[K]? = some (.cells x.vals.toArray 43 (0, 0))) (hlen : (l.length + 1) * 96 ≤ 140737488355328) :
    ∃ ao c w', (Builtin.append_ #[25, 25] 25 #[v, .slice (some ⟨K, 0, none⟩) 1 1]).run Tryz.prog W = .ok (.slice ao (l.length + 1) c) w' ∧ All (spC (.slice ao (l.length + 1) c) (l ++ [x]) :: cs) w' := by
  obtain ⟨i1, hi1, hz0, hz1, hz2⟩ := info_parts Tryz.info43
  have := appN (c := 1) Tryz.underlying25 hi1 hz0 hz1 hz2 rfl (by decide) A (some ⟨K, 0, none⟩) (news := x.vals) (m := 1) rfl (fun _ => ⟨_, rfl, fun j u hu => by rw [Addr.add_lit, Nat.zero_add, cell_at hK]; simpa using hu⟩) x.one (by unfold maxLen; omega) hlen
  have e : (l ++ [x]).flatMap Sp.vals = l.flatMap Sp.vals ++ x.vals := by simp
  unfold spC
  rw [e, List.length_append]
  exact this

set_option maxHeartbeats 1600000 in
set_option maxRecDepth 1000000 in
theorem step_any {B : Nat} {s : Ps} {sv v : Value} {l : Ws} {cs : List Comp} {w : World} (A : RdP B s sv cs w) (hc : (s.c.getD zC).length = 10) (hR : ∀ W, All cs W → Rt W v l) (hE : ∀ W, All cs W → En W) (h0 : l ≠ []) (hl : l.length ≤ 100000000000000) (hs : ∀ x ∈ l, x.length ≤ 140737488355328) (hn : s.ss.length ≤ 4000) :
    Calls Tryz.prog 37 #[ptr B, v] w (LPost B (stepL s l) cs) := by
  have C := hid (readStep_any A (fun W h => hR W h.tail.tail) (fun W h => hE W h.tail.tail) h0 hl hs)
  unfold RdP at A
  unfold SPost spV at C
  obtain ⟨ao, c, rfl⟩ := (hR w A.tail.tail).form
  obtain ⟨a1, c1, rfl⟩ := owns_form (A.tail.1.2.1 : w.ownsRow 0 43 10 sv s.ss.length _)
  clear hR hE hl hs h0
  generalize l.length = nl at *
  have Y : Hid ((rdB (s.c.getD zC) (.slice a1 s.ss.length c1) s.c.isSome)[10]? = some (.slice a1 s.ss.length c1)) := hid (rdB_at hc).1
  have y10 := (blk_at A (.head _) Y.out).1
  obtain ⟨st, hst⟩ : ∃ st, st = stepR l := ⟨_, rfl⟩
  have e1 : stepL s l = if s.ss.length = 4000 then .bad 172 else if st.2 ≠ 0 then .bad st.2 else .go ⟨s.c, s.ss ++ [st.1]⟩ := by unfold stepL; rw [hst]
  rw [e1]
  rw [← hst] at C
  clear e1 hst
  by_cases h4 : s.ss.length = 4000
  · rw [if_pos h4]
    have A0 := hid A.tail.tail
    rw [h4] at y10
    clear C Y A hc h4 hn
    go_enter Tryz.func37, Tryz.ntmps37
    go_wp2
    go_ret
    exact ⟨rfl, A0.out⟩
  · rw [if_neg h4]
    have h4' : ((s.ss.length : Int) == 4000) = false := by simp; omega
    have h4i : ¬ (s.ss.length : Int) = 4000 := by omega
    have NL : Hid (s.ss.length ≤ 4000) := hid hn
    have O := hid (sp_one st.1)
    have I : Hid ((Tryz.prog.info? 43).map (·.size) = some st.1.vals.toArray.size) := hid Tryz.i43
    have Z : Hid ((#[.int .i64 0, .int .i64 0, .int .i64 0, .int .i64 0, .int .i64 0, .int .i64 0, .string ⟨#[]⟩, .string ⟨#[]⟩, .int .i64 0, .int .i64 0] : Array Value).size = st.1.vals.toArray.size) := hid rfl
    have HN : Hid (∀ W : World, (W.alloc (.cells #[.int .i64 0, .int .i64 0, .int .i64 0, .int .i64 0, .int .i64 0, .int .i64 0, .string ⟨#[]⟩, .string ⟨#[]⟩, .int .i64 0, .int .i64 0] 43)).heap[W.heap.size]? = some (.cells #[.int .i64 0, .int .i64 0, .int .i64 0, .int .i64 0, .int .i64 0, .int .i64 0, .string ⟨#[]⟩, .string ⟨#[]⟩, .int .i64 0, .int .i64 0] 43 (0, 0))) := hid (fun W => heap_alloc_new W _)
    have S10 : Hid (∀ u, (rdB (s.c.getD zC) (.slice a1 s.ss.length c1) s.c.isSome).set 10 u = rdB (s.c.getD zC) u s.c.isSome) := hid (fun u => rdB_set10 hc)
    have YB : Hid (∀ u, (rdB (s.c.getD zC) u s.c.isSome)[10]? = some u) := hid (fun u => (rdB_at hc).1)
    clear h4 hn A hc
    by_cases hE : st.2 ≠ 0
    · have hE' : (st.2 != 0) = true := by simpa using hE
      rw [if_pos hE]
      clear hE
      generalize st.1.vals = SV at *
      generalize st.2 = SE at *
      generalize hnn : s.ss.length = n at *
      go_enter Tryz.func37, Tryz.ntmps37
      go_wp2_with (first | (go_at_call 72; refine C.out.mono ?_; rintro e w1 ⟨rfl, A1⟩; have K1 := hid (A1.addBlk SV 43); clear A1) | (refine wpList_store_row rfl 43 _ _ rfl w1.heap.size SV.toArray rfl rfl 43 _ (HN.out w1) I.out Z.out O.out ?_; rw [World.setRow_alloc_new]))
      go_ret
      exact ⟨rfl, K1.out.tail.tail.tail⟩
    · have hE0 : st.2 = 0 := Classical.byContradiction hE
      rw [if_neg hE]
      rw [hE0] at C
      clear hE hE0
      obtain ⟨y, hy⟩ : ∃ y, y = st.1 := ⟨_, rfl⟩
      rw [← hy] at C O I Z ⊢
      clear hy
      go_enter Tryz.func37, Tryz.ntmps37
      go_upto_region 6 with (first | (go_at_call 72; refine C.out.mono ?_; rintro e w1 ⟨rfl, A1⟩; have K1 := hid (A1.addBlk y.vals 43); clear A1) | (refine wpList_store_row rfl 43 _ _ rfl w1.heap.size y.vals.toArray rfl rfl 43 _ (HN.out w1) I.out Z.out O.out ?_; rw [World.setRow_alloc_new]))
      clear C HN Z y10 Y O I h4' h4i
      generalize w1.heap.size = G at *
      generalize w1.alloc (.cells y.vals.toArray 43) = W at *
      have s0 := (blk_at (j := 0) K1.out (.head _) rfl).1
      have s1 := (blk_at (j := 1) K1.out (.head _) rfl).1
      have s2 := (blk_at (j := 2) K1.out (.head _) rfl).1
      have s3 := (blk_at (j := 3) K1.out (.head _) rfl).1
      have s4 := (blk_at (j := 4) K1.out (.head _) rfl).1
      have s5 := (blk_at (j := 5) K1.out (.head _) rfl).1
      have s6 := (blk_at (j := 6) K1.out (.head _) rfl).1
      have s7 := (blk_at (j := 7) K1.out (.head _) rfl).1
      have s8 := (blk_at (j := 8) K1.out (.head _) rfl).1
      obtain ⟨s9, _, hGW⟩ := blk_at (j := 9) K1.out (.head _) rfl
      obtain ⟨t10, tf, hBW⟩ := blk_at K1.out (.tail _ (.head _)) (YB.out _)
      have eW : W.drew.alloc (.cells #[.int .i64 y.k, .int .i64 y.a, .int .i64 y.b, .int .i64 y.x, .int .i64 y.y, .int .i64 y.o.k, .string ⟨y.o.nm.toArray⟩, .string ⟨y.o.tx.toArray⟩, .int .i64 y.o.n, .int .i64 y.o.m] 43) = W.drew.alloc (.cells y.vals.toArray 43) := rfl
      obtain ⟨ao', c', w', hr, A3⟩ := app_sp (W := W.drew.alloc (.cells y.vals.toArray 43)) (K := W.heap.size) (x := y) (l := s.ss) (v := .slice a1 s.ss.length c1) (cs := blkC B (rdB (s.c.getD zC) (.slice a1 s.ss.length c1) s.c.isSome) 45 :: cs) ((K1.out.tail.swap).drew.alloc _) (heap_alloc_new W.drew _) (by have := NL.out; omega)
      obtain ⟨t3, f3, _⟩ := blk_at A3 (.tail _ (.head _)) (YB.out _)
      have A4 := hid (A3.swap.setBlk 10 (.slice ao' (s.ss.length + 1) c'))
      rw [S10.out] at A4
      have HR := hid hr
      have fin : ∀ W, All (blkC B (rdB (s.c.getD zC) (.slice ao' (s.ss.length + 1) c') s.c.isSome) 45 :: spC (.slice ao' (s.ss.length + 1) c') (s.ss ++ [y]) :: cs) W → LPost B (.go ⟨s.c, s.ss ++ [y]⟩) cs (.returned (.int .i64 0)) W := fun W h => ⟨rfl, _, h⟩
      have FI := hid fin
      clear K1 A3 hr fin S10 YB NL
      generalize hnn : s.ss.length = n at *
      clear hnn
      generalize ByteArray.mk y.o.nm.toArray = X1 at *
      generalize ByteArray.mk y.o.tx.toArray = X2 at *
      go_region_law (refine step_append_run (by rfl) _ _ 25 (by rfl) _ _ _ _ (by rfl) (by rfl) HR.out ?_)
      all_goals (go_wp2; go_ret; exact FI.out _ A4.out)
end Go.Proofs.YtblojlaifnmimaaGreatDoor
