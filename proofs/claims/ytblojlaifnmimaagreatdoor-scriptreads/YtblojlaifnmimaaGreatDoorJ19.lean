import Derived.Test.YtblojlaifnmimaaGreatDoorJ18
namespace Go.Proofs.YtblojlaifnmimaaGreatDoor
open Go.RowKit
set_option linter.unusedVariables false

theorem LPost.drop {B : Nat} {r : Pl} {x : Comp} {cs : List Comp} {e : Ending} {w : World} (h : LPost B r (x :: cs) e w) : LPost B r cs e w := by
  cases r with
  | bad k => exact ⟨h.1, h.2.tail⟩
  | go s =>
    obtain ⟨he, v, hA⟩ := h
    exact ⟨he, v, (hA.perm (perm3a _ _ _ _)).tail⟩
theorem perm3b {α : Type} (a b c : α) (cs : List α) : (a :: b :: c :: cs).Perm (b :: c :: a :: cs) := (List.perm_middle (l₁ := [b, c]) (a := a) (l₂ := cs)).symm

set_option maxHeartbeats 1600000 in
set_option maxRecDepth 1000000 in
theorem line_any {B : Nat} {s : Ps} {sv : Value} {l : List UInt8} {cs : List Comp} {w : World} (A : RdP B s sv cs w) (hc : (s.c.getD zC).length = 10) (hE : ∀ W, All cs W → En W) (hp : passW l = false) (hl : l.length ≤ 140737488355328) (hn : s.ss.length ≤ 4000) :
    Calls Tryz.prog 17 #[ptr B, .string ⟨l.toArray⟩] w (LPost B (lineL s l) cs) := by
  have C := hid (Split_any A hl)
  unfold SplitPost at C
  have Y : Hid ((rdB (s.c.getD zC) sv s.c.isSome)[11]? = some (.bool s.c.isSome)) := hid (rdB_at hc).2
  by_cases he : (splitW l).err ≠ 0
  · have e1 : lineL s l = .bad ((splitW l).err : Int) := by unfold lineL; rw [if_pos he]
    rw [e1]
    have he' : (((splitW l).err : Int) != 0) = true := by simpa using he
    clear e1 he
    generalize (splitW l).err = E at *
    generalize (splitW l).at = AT at *
    generalize (splitW l).ws = WS at *
    generalize ByteArray.mk l.toArray = X at *
    go_enter Tryz.func17, Tryz.ntmps17
    go_wp2_with (go_at_call 35; refine C.out.mono ?_; rintro e w1 ⟨v1, rfl, A1⟩; have K1 := hid A1; clear A1)
    go_ret
    exact ⟨rfl, K1.out.tail.tail.tail⟩
  · have he0 : (splitW l).err = 0 := Classical.byContradiction he
    have hne := words_ne hp he0
    have hwl := words_len l
    have hwi := words_in l
    have e1 : lineL s l = wordsL s (splitW l).ws := by unfold lineL; rw [if_neg he]
    rw [e1]
    rw [he0] at C
    clear e1 he he0
    have QH : Hid (s.c = none → ∀ v W, All (ownC 9 v (txW (splitW l).ws) :: blkC B (rdB (s.c.getD zC) sv s.c.isSome) 45 :: spC sv s.ss :: cs) W → Calls Tryz.prog 36 #[ptr B, v] W (LPost B (headL s (splitW l).ws) cs)) := hid (fun hcn v W h => (head_any (h.perm (perm3b _ _ _ _)) hcn (fun W h => rt_own h) (fun W h => hE W h.tail) (by omega) hwi).mono fun e w' h => h.drop)
    have QS : Hid (∀ v W, All (ownC 9 v (txW (splitW l).ws) :: blkC B (rdB (s.c.getD zC) sv s.c.isSome) 45 :: spC sv s.ss :: cs) W → Calls Tryz.prog 37 #[ptr B, v] W (LPost B (stepL s (splitW l).ws) cs)) := hid (fun v W h => (step_any (h.perm (perm3b _ _ _ _)) hc (fun W h => rt_own h) (fun W h => hE W h.tail) hne (by omega) hwi hn).mono fun e w' h => h.drop)
    have fin : Hid (∀ r e (w' : World), LPost B r cs e w' → ∃ k, e = .returned (.int .i64 k)) := hid (fun r e w' h => by
      cases r with
      | bad k => exact ⟨k, h.1⟩
      | go s => exact ⟨0, h.1⟩)
    by_cases hcn : s.c.isNone = true
    · have hcn' : s.c = none := by simpa using hcn
      have e2 : wordsL s (splitW l).ws = headL s (splitW l).ws := by unfold wordsL; rw [if_pos hcn]
      rw [e2]
      have his : s.c.isSome = false := by rw [hcn']; rfl
      have QH := hid (QH.out hcn')
      rw [his] at Y C QH
      clear e2 hcn hcn' hwl hwi hne QS A hc hE hp hl hn
      generalize headL s (splitW l).ws = HL at *
      generalize (splitW l).at = AT at *
      generalize (splitW l).ws = WS at *
      generalize ByteArray.mk l.toArray = X at *
      generalize hRD : rdB (s.c.getD zC) sv false = RD at *
      clear hRD
      go_enter Tryz.func17, Tryz.ntmps17
      go_wp2_with (go_at_call 35; refine C.out.mono ?_; rintro e w1 ⟨v1, rfl, A1⟩; have K1 := hid A1; clear A1; have y11 := (blk_at K1.out (.tail _ (.head _)) Y.out).1; refine Hid.out ?_)
      refine hid ?_
      go_wp2_with (go_at_call 36; refine (QH.out _ _ K1.out).mono ?_; intro e w2 h2; obtain ⟨kk, rfl⟩ := fin.out _ _ _ h2; have H2 := hid h2; clear h2)
      go_ret
      exact H2.out
    · have hcn' : s.c.isSome = true := by cases hh : s.c <;> simp_all
      have e2 : wordsL s (splitW l).ws = stepL s (splitW l).ws := by unfold wordsL; rw [if_neg hcn]
      rw [e2]
      rw [hcn'] at Y C QS
      clear e2 hcn hcn' hwl hwi hne QH A hc hE hp hl hn
      generalize stepL s (splitW l).ws = HL at *
      generalize (splitW l).at = AT at *
      generalize (splitW l).ws = WS at *
      generalize ByteArray.mk l.toArray = X at *
      generalize hRD : rdB (s.c.getD zC) sv true = RD at *
      clear hRD
      go_enter Tryz.func17, Tryz.ntmps17
      go_wp2_with (go_at_call 35; refine C.out.mono ?_; rintro e w1 ⟨v1, rfl, A1⟩; have K1 := hid A1; clear A1; have y11 := (blk_at K1.out (.tail _ (.head _)) Y.out).1; refine Hid.out ?_)
      refine hid ?_
      go_wp2_with (go_at_call 37; refine (QS.out _ _ K1.out).mono ?_; intro e w2 h2; obtain ⟨kk, rfl⟩ := fin.out _ _ _ h2; have H2 := hid h2; clear h2)
      go_ret
      exact H2.out
/-- What stays true of a reader. -/
def PsOk (s : Ps) : Prop := (s.c.getD zC).length = 10 ∧ s.ss.length ≤ 4000
theorem PsOk.line {s s' : Ps} {l : List UInt8} (h : PsOk s) (hl : lineL s l = .go s') : PsOk s' := by
  unfold lineL wordsL at hl
  split at hl
  · simp at hl
  · split at hl
    · unfold headL at hl
      split at hl
      · simp at hl
      · rename_i cc hcc
        split at hl
        · simp at hl
        · simp only [Pl.go.injEq] at hl
          subst hl
          exact ⟨headR_len hcc, h.2⟩
    · unfold stepL at hl
      split at hl
      · simp at hl
      · split at hl
        · simp at hl
        · simp only [Pl.go.injEq] at hl
          subst hl
          refine ⟨h.1, ?_⟩
          have := h.2
          simp only [List.length_append, List.length_cons, List.length_nil]
          omega
theorem goL_at {ls : Ws} {k : Nat} {s : Ps} (hk : k < ls.length) : goL k s (ls.drop k) = if passW (ls.getD k []) = true then goL (k + 1) s (ls.drop (k + 1)) else match lineL s (ls.getD k []) with
    | .bad e => .bad (k + 1) e
    | .go s' => goL (k + 1) s' (ls.drop (k + 1)) := by
  rw [List.drop_eq_getElem_cons hk]
  have e : ls.getD k [] = ls[k] := by simp [List.getD, hk]
  rw [e, goL]
  rfl
/-- A play as it is answered. -/
def PPost (p : PA) (cs : List Comp) (e : Ending) (w' : World) : Prop := ∃ v, e = .returned (.tuple #[.agg (cI p.c ++ [v]).toArray, .int .i64 (p.at' : Int), .int .i64 p.e]) ∧ All (spC v p.ss :: cs) w'
def plZ : List Value := cI zC ++ [.slice none 0 0]
theorem pl_one (c : List Int) (a : Option Addr) (n k : Nat) : (cI c ++ [Value.slice a n k]).toArray.all (·.oneCell') = true := all_oneCell_toArray (by
  intro u hu
  rcases List.mem_append.1 hu with h | h
  · obtain ⟨y, _, rfl⟩ := List.mem_map.1 h
    rfl
  · simp only [List.mem_cons, List.not_mem_nil, or_false] at h
    subst h
    rfl)
theorem PPost.bad {n : Nat} {k : Int} {cs : List Comp} {w : World} (h : All cs w) : PPost (.bad n k) cs (.returned (.tuple #[.agg plZ.toArray, .int .i64 (n : Int), .int .i64 k])) w := ⟨.slice none 0 0, rfl, All.addRow0 h⟩
end Go.Proofs.YtblojlaifnmimaaGreatDoor

namespace Go.Proofs.YtblojlaifnmimaaGreatDoor
open Go.RowKit
set_option linter.unusedVariables false

theorem rd_range {B : Nat} {c : List Int} {v : Value} {hd : Bool} {cs : List Comp} {w : World} (h : All cs w) (hm : blkC B (rdB c v hd) 45 ∈ cs) : w.rangeAt B 0 (cI c ++ [v]) := fun j u hu => by
  have hb := (h.mem hm).2.1
  rw [cell_at hb, Nat.zero_add, List.getElem?_toArray]
  unfold rdB
  rw [show cI c ++ [v, .bool hd] = (cI c ++ [v]) ++ [.bool hd] by simp, List.getElem?_append_left (List.getElem?_eq_some_iff.1 hu).1]
  exact hu
theorem plZ_eq : plZ.toArray = #[.int .i64 0, .int .i64 0, .int .i64 0, .int .i64 0, .int .i64 0, .int .i64 0, .int .i64 0, .int .i64 0, .int .i64 0, .int .i64 0, .slice none 0 0] := rfl

theorem lineL_bad {s : Ps} {l : List UInt8} {e : Int} (h : lineL s l = .bad e) : e ≠ 0 := by
  unfold lineL wordsL headL stepL at h
  repeat' (split at h)
  all_goals first
    | (simp only [reduceCtorEq] at h; done)
    | (simp only [Pl.bad.injEq] at h; subst h; first | decide | assumption | omega)

set_option maxHeartbeats 3200000 in
set_option maxRecDepth 1000000 in
theorem Parse_any {l : List UInt8} {cs : List Comp} {w : World} (A : All cs w) (hE : ∀ W, All cs W → En W) (hl : l.length ≤ 140737488355328) :
    Calls Tryz.prog 9 #[.string ⟨l.toArray⟩] w (PPost (parseW l) cs) := by
  have hz : (⟨l.toArray⟩ : ByteArray).size = l.length := by simp [ByteArray.size]
  have A0 := hid (A.addBlk plZ 27)
  have IZ : Hid ((Tryz.prog.info? 27).map (·.size) = some plZ.toArray.size) := hid Tryz.i27
  have OZ : Hid (plZ.toArray.all (·.oneCell') = true) := hid (pl_one zC none 0 0)
  have H0 := hid A0.out.1.2.1
  by_cases h6 : 65536 < l.length
  · have e1 : parseW l = .bad 0 172 := by unfold parseW; rw [if_pos h6]
    rw [e1]
    have h6' : (65536 : Int) < (l.length : Int) := by omega
    have A4 := hid (A0.out.setRow (vs' := plZ))
    clear e1 A hE h6
    generalize ByteArray.mk l.toArray = X at *
    go_enter Tryz.func9, Tryz.ntmps9
    rw [plZ_eq] at H0 A4
    go_wp2_with (first | (refine wpList_build rfl 27 _ rfl (by kernel_rfl) ?_) | (refine wpList_store_row rfl 27 _ _ rfl w.heap.size plZ.toArray rfl (by kernel_rfl) 27 _ H0.out IZ.out rfl OZ.out ?_))
    refine ret3 rfl rfl rfl rfl (ld27 A4.out.1.2.1 rfl) rfl ?_
    exact PPost.bad A4.out.tail
  · have h6' : ¬ (65536 : Int) < (l.length : Int) := by omega
    have e1 : parseW l = goL 0 ⟨none, []⟩ (linesW [] l) := by unfold parseW; rw [if_neg h6]
    rw [e1]
    clear e1
    have A1 := hid (A0.out.addBlk (rdB zC (.slice none 0 0) false) 45)
    have esz : (w.alloc (.cells plZ.toArray 27)).heap.size = w.heap.size + 1 := by simp
    rw [esz] at A1
    have C := hid (lsplit_any A1.out (hE _ A1.out.tail.tail).m (show l.length ≤ 65536 by omega))
    have LM : Hid (∀ k, ((linesW [] l).getD k []).length ≤ 140737488355328) := hid (fun k => by
      by_cases hk : k < (linesW [] l).length
      · have := lines_mem l [] ((linesW [] l).getD k []) (by rw [List.getD, List.getElem?_eq_getElem hk]; exact List.getElem_mem hk)
        simp only [List.length_nil] at this
        omega
      · rw [List.getD, List.getElem?_eq_none (by omega)]; simp)
    have LL : Hid ((linesW [] l).length ≤ 70000) := hid (by have := lines_len l []; omega)
    have er : (rdB zC (.slice none 0 0) false).toArray = #[.int .i64 0, .int .i64 0, .int .i64 0, .int .i64 0, .int .i64 0, .int .i64 0, .int .i64 0, .int .i64 0, .int .i64 0, .int .i64 0, .slice none 0 0, .bool false] := rfl
    rw [plZ_eq, er] at C
    have HG : Hid (goL 0 ⟨none, []⟩ (linesW [] l) = goL 0 ⟨none, []⟩ ((linesW [] l).drop 0)) := hid rfl
    generalize linesW [] l = ls at *
    generalize hG : goL 0 ⟨none, []⟩ ls = G at *
    clear hG A A1 A0 H0 esz er hl
    have hn : ls.length ≤ 70000 := LL.out
    generalize ByteArray.mk l.toArray = X at *
    go_enter Tryz.func9, Tryz.ntmps9
    go_wp2_with (go_at_call 15; refine C.out.mono ?_; rintro e w1 ⟨ao1, c1, rfl, A1⟩; have K1 := hid A1; clear A1)
    clear C
    have K2 : Hid (All (blkC (w.heap.size + 1) (rdB (Option.getD none zC) (.slice none 0 0) (Option.isSome (none : Option (List Int)))) 45 :: spC (.slice none 0 0) [] :: ownC 9 (.slice ao1 ls.length c1) (txW ls) :: blkC w.heap.size plZ 27 :: cs) w1) := hid ((All.addRow0 (e := 43) (size := 10) K1.out).perm (perm3a _ _ _ _))
    clear K1
    generalize w.heap.size + 1 = B at *
    generalize w.heap.size = R at *
    go_loopw [18] (fun iv wr => ∃ (k : Nat) (s : Ps) (v : Value), k ≤ ls.length ∧ iv = .int .i64 (k : Int) ∧ Hid (G = goL k s (ls.drop k)) ∧ Hid (PsOk s) ∧ Hid (All (blkC B (rdB (s.c.getD zC) v s.c.isSome) 45 :: spC v s.ss :: ownC 9 (.slice ao1 ls.length c1) (txW ls) :: blkC R plZ 27 :: cs) wr)) (fun iv _ => ls.length - (intOf iv).toNat)
    case atStart => exact ⟨0, ⟨none, []⟩, .slice none 0 0, Nat.zero_le _, rfl, HG, hid ⟨rfl, by simp⟩, K2⟩
    case round =>
      obtain ⟨k, s, v, hk, rfl, hGo, hOk, HA⟩ := hrel
      clear K2 HG
      by_cases hlt : k < ls.length
      · have hlt' : (k : Int) < (ls.length : Int) := by omega
        obtain ⟨g, o, hao, _, h1⟩ := (rt_mem HA.out (.tail _ (.tail _ (.head _)))).at hlt
        subst hao
        have P := hid (pass_any (l := ls.getD k []) (w := wr))
        have ga := goL_at (ls := ls) (k := k) (s := s) hlt
        by_cases hp : passW (ls.getD k []) = true
        · rw [hp] at P
          rw [if_pos hp] at ga
          have nx : Hid (G = goL (k + 1) s (ls.drop (k + 1))) := hid (by rw [hGo.out]; exact ga)
          clear ga hp hGo
          generalize ByteArray.mk (ls.getD k []).toArray = Y at *
          generalize hN : ls.length = nl at *
          go_wp2_with (go_at_call 16; refine P.out.mono ?_; rintro e w2 ⟨rfl, B2⟩; have K3 := hid (HA.out.later B2); clear B2)
          go_roundw
          case rel => exact ⟨k + 1, s, v, by omega, by go_num, nx, hOk, K3⟩
          case measure => simp [intOf]; omega
        · rw [if_neg hp] at ga
          have hp' : passW (ls.getD k []) = false := by simpa using hp
          rw [hp'] at P
          have Q : Hid (∀ W, All (blkC B (rdB (s.c.getD zC) v s.c.isSome) 45 :: spC v s.ss :: ownC 9 (.slice (some ⟨g, o, none⟩) ls.length c1) (txW ls) :: blkC R plZ 27 :: cs) W → Calls Tryz.prog 17 #[ptr B, .string ⟨(ls.getD k []).toArray⟩] W (LPost B (lineL s (ls.getD k [])) (ownC 9 (.slice (some ⟨g, o, none⟩) ls.length c1) (txW ls) :: blkC R plZ 27 :: cs))) := hid (fun W h => line_any h hOk.out.1 (fun W h => hE W h.tail.tail) hp' (LM.out k) hOk.out.2)
          clear hp hp'
          cases hL : lineL s (ls.getD k []) with
          | bad ee =>
            rw [hL] at ga Q
            have fin : Hid (G = .bad (k + 1) ee) := hid (by rw [hGo.out]; exact ga)
            have hee' : (ee != 0) = true := by simpa using lineL_bad hL
            clear ga hGo hL
            generalize ByteArray.mk (ls.getD k []).toArray = Y at *
            generalize hN : ls.length = nl at *
            have wk : IntKind.i64.wrap ((k : Int) + 1) = (k : Int) + 1 := by rw [IntKind.wrap_i64]; omega
            go_wp2_with (first | (go_at_call 16; refine P.out.mono ?_; rintro e w2 ⟨rfl, B2⟩; have K3 := hid (HA.out.later B2); clear B2) | (go_at_call 17; refine (Q.out _ K3.out).mono ?_; rintro e w3 ⟨rfl, A3⟩; have K4 := hid A3.swap; clear A3; have H4 := hid K4.out.1.2.1; have K5 := hid (K4.out.setRow (vs' := plZ))) | (refine wpList_build rfl 27 _ rfl (by kernel_rfl) ?_) | (refine wpList_store_row rfl 27 _ _ rfl R plZ.toArray rfl (by kernel_rfl) 27 _ H4.out IZ.out rfl OZ.out ?_))
            refine ret3 rfl rfl rfl rfl (ld27 K5.out.1.2.1 rfl) rfl ?_
            have := PPost.bad (n := k + 1) (k := ee) K5.out.tail.tail
            rw [fin.out]
            exact this
          | go s' =>
            rw [hL] at ga Q
            have hOk' := hid (hOk.out.line hL)
            have nx : Hid (G = goL (k + 1) s' (ls.drop (k + 1))) := hid (by rw [hGo.out]; exact ga)
            clear ga hGo hL
            generalize ByteArray.mk (ls.getD k []).toArray = Y at *
            generalize hN : ls.length = nl at *
            go_wp2_with (first | (go_at_call 16; refine P.out.mono ?_; rintro e w2 ⟨rfl, B2⟩; have K3 := hid (HA.out.later B2); clear B2) | (go_at_call 17; refine (Q.out _ K3.out).mono ?_; rintro e w3 ⟨rfl, v3, A3⟩; have K4 := hid A3; clear A3))
            go_roundw
            case rel => exact ⟨k + 1, s', v3, by omega, by go_num, nx, hOk', K4⟩
            case measure => simp [intOf]; omega
      · have hlt' : ¬ (k : Int) < (ls.length : Int) := by omega
        have ek : k = ls.length := by omega
        have ed : ls.drop k = [] := List.drop_of_length_le (by omega)
        rw [ed] at hGo
        have y11 := (blk_at HA.out (.head _) (rdB_at hOk.out.1).2).1
        cases hc : s.c with
        | none =>
          have fin : Hid (G = .bad ls.length 170) := hid (by rw [hGo.out, goL, hc]; simp only; rw [← ek])
          rw [hc] at y11
          simp only [Option.isSome_none] at y11
          have K4 := hid (HA.out.tail.tail.swap)
          have H4 := hid K4.out.1.2.1
          have K5 := hid (K4.out.setRow (vs' := plZ))
          clear ed hGo ek HA
          generalize hN : ls.length = nl at *
          go_wp2_with (first | (refine wpList_build rfl 27 _ rfl (by kernel_rfl) ?_) | (refine wpList_store_row rfl 27 _ _ rfl R plZ.toArray rfl (by kernel_rfl) 27 _ H4.out IZ.out rfl OZ.out ?_))
          refine ret3 rfl rfl rfl rfl (ld27 K5.out.1.2.1 rfl) rfl ?_
          rw [fin.out]
          exact PPost.bad K5.out.tail.tail
        | some cc =>
          have fin : Hid (G = .ok cc s.ss) := hid (by rw [hGo.out, goL, hc])
          have hcl : cc.length = 10 := by have := hOk.out.1; rw [hc] at this; exact this
          rw [hc] at y11 HA
          simp only [Option.isSome_some, Option.getD_some] at y11 HA
          obtain ⟨a1, c1', rfl⟩ := owns_form (HA.out.tail.1.2.1 : wr.ownsRow 0 43 10 v s.ss.length _)
          have RG := hid (rd_range HA.out (.head _))
          have II : Hid ((Tryz.prog.info? 27).map (·.size) = some (cI cc ++ [Value.slice a1 s.ss.length c1']).length) := hid (by rw [Tryz.i27]; simp [cI_len, hcl])
          have I2 : Hid ((Tryz.prog.info? 27).map (·.size) = some (cI cc ++ [Value.slice a1 s.ss.length c1']).toArray.size) := hid (by rw [Tryz.i27]; simp [cI_len, hcl])
          have OO := hid (pl_one cc a1 s.ss.length c1')
          have ZZ : Hid (plZ.toArray.size = (cI cc ++ [Value.slice a1 s.ss.length c1']).toArray.size) := hid (by show 11 = _; simp [cI_len, hcl])
          have LZ : Hid ((cI cc ++ [Value.slice a1 s.ss.length c1']).toArray.size = 11) := hid (by simp [cI_len, hcl])
          have K4 := hid (HA.out.perm (perm4 _ _ _ _ _))
          have H4 := hid K4.out.1.2.1
          have K5 := hid (K4.out.setRow (vs' := cI cc ++ [Value.slice a1 s.ss.length c1']))
          have FI : Hid (∀ W, All (blkC R (cI cc ++ [Value.slice a1 s.ss.length c1']) 27 :: blkC B (rdB cc (.slice a1 s.ss.length c1') true) 45 :: spC (.slice a1 s.ss.length c1') s.ss :: ownC 9 (.slice ao1 ls.length c1) (txW ls) :: cs) W → PPost G cs (.returned (.tuple #[.agg (cI cc ++ [Value.slice a1 s.ss.length c1']).toArray, .int .i64 0, .int .i64 0])) W) := hid (fun W h => by
            rw [fin.out]
            exact ⟨_, rfl, h.tail.tail.del⟩)
          clear ed hGo ek HA K4 fin hOk hc
          generalize cI cc ++ [Value.slice a1 s.ss.length c1'] = PV at *
          generalize hN : ls.length = nl at *
          go_wp2_with (first | (refine wpList_load_mid rfl 27 _ rfl B 0 rfl PV _ RG.out Tryz.underlying27 rfl II.out ?_) | (refine wpList_store_row rfl 27 _ _ rfl R PV.toArray rfl rfl 27 _ H4.out I2.out ZZ.out OO.out ?_))
          refine ret3 rfl rfl rfl rfl (ld27 K5.out.1.2.1 LZ.out) rfl ?_
          exact FI.out _ K5.out
end Go.Proofs.YtblojlaifnmimaaGreatDoor

namespace Go.Proofs.YtblojlaifnmimaaGreatDoor
open Go.RowKit
set_option linter.unusedVariables false

theorem Tryz.fields43 : Tryz.prog.underlying 43 = some (.struct (Tryz.prog.fieldsOf 43)) := by kernel_rfl
theorem Tryz.held43 : Tryz.prog.stoodInHeld 43 = false := by kernel_rfl
theorem Tryz.fieldsOf43 : Tryz.prog.fieldsOf 43 = #[{ name := "Kind", type := 3, offset := 0, embedded := false, tag := "", pkgPath := "", byteOffset := 0 }, { name := "A", type := 3, offset := 1, embedded := false, tag := "", pkgPath := "", byteOffset := 8 }, { name := "K", type := 3, offset := 2, embedded := false, tag := "", pkgPath := "", byteOffset := 16 }, { name := "X", type := 3, offset := 3, embedded := false, tag := "", pkgPath := "", byteOffset := 24 }, { name := "Y", type := 3, offset := 4, embedded := false, tag := "", pkgPath := "", byteOffset := 32 }, { name := "Op", type := 41, offset := 5, embedded := false, tag := "", pkgPath := "", byteOffset := 40 }] := by kernel_rfl
theorem Tryz.fields41 : Tryz.prog.underlying 41 = some (.struct (Tryz.prog.fieldsOf 41)) := by kernel_rfl
theorem Tryz.held41 : Tryz.prog.stoodInHeld 41 = false := by kernel_rfl
theorem Tryz.fieldsOf41 : Tryz.prog.fieldsOf 41 = #[{ name := "Kind", type := 3, offset := 0, embedded := false, tag := "", pkgPath := "", byteOffset := 0 }, { name := "Name", type := 9, offset := 1, embedded := false, tag := "", pkgPath := "", byteOffset := 8 }, { name := "Text", type := 9, offset := 2, embedded := false, tag := "", pkgPath := "", byteOffset := 24 }, { name := "Num", type := 3, offset := 3, embedded := false, tag := "", pkgPath := "", byteOffset := 40 }, { name := "Most", type := 3, offset := 4, embedded := false, tag := "", pkgPath := "", byteOffset := 48 }] := by kernel_rfl
theorem Tryz.fields24 : Tryz.prog.underlying 24 = some (.struct (Tryz.prog.fieldsOf 24)) := by kernel_rfl
theorem Tryz.held24 : Tryz.prog.stoodInHeld 24 = false := by kernel_rfl
theorem Tryz.fieldsOf24 : Tryz.prog.fieldsOf 24 = #[{ name := "N", type := 3, offset := 0, embedded := false, tag := "", pkgPath := "", byteOffset := 0 }, { name := "Clients", type := 3, offset := 1, embedded := false, tag := "", pkgPath := "", byteOffset := 8 }, { name := "Beat", type := 3, offset := 2, embedded := false, tag := "", pkgPath := "", byteOffset := 16 }, { name := "Again", type := 3, offset := 3, embedded := false, tag := "", pkgPath := "", byteOffset := 24 }, { name := "Patience", type := 3, offset := 4, embedded := false, tag := "", pkgPath := "", byteOffset := 32 }, { name := "Cap", type := 3, offset := 5, embedded := false, tag := "", pkgPath := "", byteOffset := 40 }, { name := "Retry", type := 3, offset := 6, embedded := false, tag := "", pkgPath := "", byteOffset := 48 }, { name := "Every", type := 3, offset := 7, embedded := false, tag := "", pkgPath := "", byteOffset := 56 }, { name := "Log", type := 3, offset := 8, embedded := false, tag := "", pkgPath := "", byteOffset := 64 }, { name := "Batch", type := 3, offset := 9, embedded := false, tag := "", pkgPath := "", byteOffset := 72 }] := by kernel_rfl

set_option maxRecDepth 100000 in
theorem eq43 (x y : Sp) (w : World) : (Op.equalIn 10000 43 (.agg x.vals.toArray) (.agg y.vals.toArray)).run Tryz.prog w = .ok (decide (x = y)) w := by
  have h := run_equalIn_agg (P := Tryz.prog) w 9999 43 x.vals.toArray y.vals.toArray Tryz.fields43 Tryz.held43
  rw [Tryz.fieldsOf43] at h
  refine h.trans ?_
  have hi := fun d a b => run_equalIn_int (P := Tryz.prog) w d 3 .i64 .i64 a b Tryz.underlying3
  have hs := fun d t u => run_equalIn_string (P := Tryz.prog) w d 9 t u Tryz.underlying9
  have f41 := Tryz.fieldsOf41
  have es : ∀ a b : List UInt8, ((⟨a.toArray⟩ : ByteArray).toList = (⟨b.toArray⟩ : ByteArray).toList) = (a = b) := fun a b => by rw [Lib.toList_data, Lib.toList_data]
  have e : (x = y) = (x.k = y.k ∧ x.a = y.a ∧ x.b = y.b ∧ x.x = y.x ∧ x.y = y.y ∧ (x.o.k = y.o.k ∧ x.o.nm = y.o.nm ∧ x.o.tx = y.o.tx ∧ x.o.n = y.o.n ∧ x.o.m = y.o.m)) := by
    obtain ⟨_, _, _, _, _, ⟨_, _, _, _, _⟩⟩ := x
    obtain ⟨_, _, _, _, _, ⟨_, _, _, _, _⟩⟩ := y
    simp
  unfold Sp.vals
  simp only [Op.eqFields]
  go_simp
  by_cases h1 : x.k = y.k
  case neg => simp [h1]
  by_cases h2 : x.a = y.a
  case neg => simp [h1, h2]
  by_cases h3 : x.b = y.b
  case neg => simp [h1, h2, h3]
  by_cases h4 : x.x = y.x
  case neg => simp [h1, h2, h3, h4]
  by_cases h5 : x.y = y.y
  case neg => simp [h1, h2, h3, h4, h5]
  by_cases h6 : x.o.k = y.o.k
  case neg => simp [h1, h2, h3, h4, h5, h6]
  by_cases h7 : x.o.nm = y.o.nm
  case neg => simp [h1, h2, h3, h4, h5, h6, h7]
  by_cases h8 : x.o.tx = y.o.tx
  case neg => simp [h1, h2, h3, h4, h5, h6, h7, h8]
  by_cases h9 : x.o.n = y.o.n
  case neg => simp [h1, h2, h3, h4, h5, h6, h7, h8, h9]
  by_cases h10 : x.o.m = y.o.m
  case neg => simp [h1, h2, h3, h4, h5, h6, h7, h8, h9, h10]
  simp [h1, h2, h3, h4, h5, h6, h7, h8, h9, h10]
set_option maxRecDepth 100000 in
theorem eq24 {c d : List Int} (hc : c.length = 10) (hd : d.length = 10) (w : World) : (Op.equalIn 10000 24 (.agg (cI c).toArray) (.agg (cI d).toArray)).run Tryz.prog w = .ok (decide (c = d)) w := by
  obtain ⟨a0, a1, a2, a3, a4, a5, a6, a7, a8, a9, rfl⟩ := ten hc
  obtain ⟨b0, b1, b2, b3, b4, b5, b6, b7, b8, b9, rfl⟩ := ten hd
  have h := run_equalIn_agg (P := Tryz.prog) w 9999 24 (cI [a0, a1, a2, a3, a4, a5, a6, a7, a8, a9]).toArray (cI [b0, b1, b2, b3, b4, b5, b6, b7, b8, b9]).toArray Tryz.fields24 Tryz.held24
  rw [Tryz.fieldsOf24] at h
  refine h.trans ?_
  have hi := fun d a b => run_equalIn_int (P := Tryz.prog) w d 3 .i64 .i64 a b Tryz.underlying3
  unfold cI
  simp only [Op.eqFields, List.map_cons, List.map_nil]
  go_simp
  by_cases h1 : a0 = b0
  case neg => simp [h1]
  by_cases h2 : a1 = b1
  case neg => simp [h1, h2]
  by_cases h3 : a2 = b2
  case neg => simp [h1, h2, h3]
  by_cases h4 : a3 = b3
  case neg => simp [h1, h2, h3, h4]
  by_cases h5 : a4 = b4
  case neg => simp [h1, h2, h3, h4, h5]
  by_cases h6 : a5 = b5
  case neg => simp [h1, h2, h3, h4, h5, h6]
  by_cases h7 : a6 = b6
  case neg => simp [h1, h2, h3, h4, h5, h6, h7]
  by_cases h8 : a7 = b7
  case neg => simp [h1, h2, h3, h4, h5, h6, h7, h8]
  by_cases h9 : a8 = b8
  case neg => simp [h1, h2, h3, h4, h5, h6, h7, h8, h9]
  by_cases h10 : a9 = b9
  case neg => simp [h1, h2, h3, h4, h5, h6, h7, h8, h9, h10]
  simp [h1, h2, h3, h4, h5, h6, h7, h8, h9, h10]
end Go.Proofs.YtblojlaifnmimaaGreatDoor
