import Derived.Test.YtgmjjopfpenceaaSpl
import Derived.Test.YtgmjjopfpenceaaSi
namespace Go.Proofs.Ytgmjjopfpenceaa
open Go.RowKit
set_option linter.unusedVariables false

theorem drop_cons {l : List UInt8} {i : Nat} (hi : i < l.length) : l.drop i = l.getD i 0 :: l.drop (i + 1) := by
  rw [List.drop_eq_getElem_cons hi]
  simp [List.getD, hi]
theorem singW_nil (m : Nat) (o : List UInt8) (q : Bool) : singW m o q [] = (o, q) := by cases m <;> rfl
/-- A single list on its way. -/
def Sgl (PF : List UInt8 × Bool) (l : List UInt8) (i : Nat) (o : List UInt8) (q : Bool) : Prop := ∃ m, l.length ≤ m + i ∧ PF = singW m o q (l.drop i)
theorem Sgl.succ {PF : List UInt8 × Bool} {l : List UInt8} {i : Nat} {o : List UInt8} {q : Bool} (h : Sgl PF l i o q) (hi : i < l.length) : ∃ m, l.length ≤ m + (i + 1) ∧ PF = singW (m + 1) o q (l.getD i 0 :: l.drop (i + 1)) := by
  obtain ⟨m, hm, h⟩ := h
  obtain ⟨m', rfl⟩ : ∃ m', m = m' + 1 := ⟨m - 1, by omega⟩
  exact ⟨m', by omega, by rw [h, drop_cons hi]⟩
theorem Sgl.fin {PF : List UInt8 × Bool} {l : List UInt8} {i : Nat} {o : List UInt8} {q : Bool} (h : Sgl PF l i o q) (hi : l.length ≤ i) : PF = (o, q) := by
  obtain ⟨m, hm, h⟩ := h
  rw [h, List.drop_eq_nil_of_le hi, singW_nil]
theorem Sgl.skip {PF : List UInt8 × Bool} {l : List UInt8} {i : Nat} {o : List UInt8} (h : Sgl PF l i o false) (hi : i < l.length) (hc : (l.getD i 0).toNat = 32) (ho : o = [] ∨ o.getLast?.map UInt8.toNat = some 32) : Sgl PF l (i + 1) o false := by
  obtain ⟨m, hm, h⟩ := h.succ hi
  refine ⟨m, hm, ?_⟩
  rw [h, sing_blank hc, if_neg]
  rintro ⟨h1, h2⟩
  exact ho.elim h1 h2
theorem Sgl.blank {PF : List UInt8 × Bool} {l : List UInt8} {i : Nat} {o : List UInt8} (h : Sgl PF l i o false) (hi : i < l.length) (hc : (l.getD i 0).toNat = 32) (h1 : o ≠ []) (h2 : o.getLast?.map UInt8.toNat ≠ some 32) : Sgl PF l (i + 1) (o ++ [l.getD i 0]) false := by
  obtain ⟨m, hm, h⟩ := h.succ hi
  refine ⟨m, hm, ?_⟩
  rw [h, sing_blank hc, if_pos ⟨h1, h2⟩]
theorem Sgl.quote {PF : List UInt8 × Bool} {l : List UInt8} {i : Nat} {o : List UInt8} {q : Bool} (h : Sgl PF l i o q) (hi : i < l.length) (hc : (l.getD i 0).toNat = 34) : Sgl PF l (i + 1) (o ++ [l.getD i 0]) (!q) := by
  obtain ⟨m, hm, h⟩ := h.succ hi
  exact ⟨m, hm, by rw [h, sing_quote hc]⟩
theorem Sgl.plain {PF : List UInt8 × Bool} {l : List UInt8} {i : Nat} {o : List UInt8} {q : Bool} (h : Sgl PF l i o q) (hi : i < l.length) (h1 : ¬ ((l.getD i 0).toNat = 32 ∧ q = false)) (h2 : ¬ (q = true ∧ (l.getD i 0).toNat = 92)) (h3 : (l.getD i 0).toNat ≠ 34) : Sgl PF l (i + 1) (o ++ [l.getD i 0]) q := by
  obtain ⟨m, hm, h⟩ := h.succ hi
  exact ⟨m, hm, by rw [h, sing_plain h1 h2 h3]⟩
theorem Sgl.esc {PF : List UInt8 × Bool} {l : List UInt8} {i : Nat} {o : List UInt8} (h : Sgl PF l i o true) (hi : i + 1 < l.length) (hc : (l.getD i 0).toNat = 92) : Sgl PF l (i + 2) (o ++ [l.getD i 0] ++ [l.getD (i + 1) 0]) true := by
  obtain ⟨m, hm, h⟩ := h.succ (by omega)
  refine ⟨m, by omega, ?_⟩
  rw [h, drop_cons hi, sing_esc hc]
theorem Sgl.last {PF : List UInt8 × Bool} {l : List UInt8} {i : Nat} {o : List UInt8} (h : Sgl PF l i o true) (hi : i < l.length) (hn : l.length ≤ i + 1) (hc : (l.getD i 0).toNat = 92) : Sgl PF l (i + 1) (o ++ [l.getD i 0]) true := by
  obtain ⟨m, hm, h⟩ := h.succ hi
  refine ⟨m, hm, ?_⟩
  rw [h, List.drop_eq_nil_of_le hn, singW_nil]
  rw [singW, if_neg (by simp), if_pos ⟨rfl, hc⟩]
  simp only
  rw [if_neg (by omega), singW_nil]

theorem Reads.take {w : World} {ao : Option Addr} {n c : Nat} {o : List UInt8} (h : Reads w (.slice ao n c) o) {m : Nat} (hm : m ≤ o.length) : Reads w (.slice ao m c) (o.take m) := by
  obtain ⟨ao', c', e, hc, hx⟩ := h
  simp only [Value.slice.injEq] at e
  obtain ⟨rfl, rfl, rfl⟩ := e
  have hl : (o.take m).length = m := by simp; omega
  refine ⟨ao, c, by rw [hl], by omega, ?_⟩
  rcases hx with ⟨rfl, h0⟩ | ⟨g, p, rfl, hg, hcell⟩
  · exact Or.inl ⟨by simp, h0⟩
  · refine Or.inr ⟨g, p, rfl, hg, fun j u hu => hcell j u ?_⟩
    have hj : j < (cellsB (o.take m)).length := (List.getElem?_eq_some_iff.1 hu).1
    rw [cellsB_length, hl] at hj
    rw [← hu]
    simp [cellsB, hj]
theorem last_at {o : List UInt8} (h : 0 < o.length) : o.getLast?.map UInt8.toNat = some (o.getD (o.length - 1) 0).toNat := by
  rw [List.getLast?_eq_getElem?, List.getElem?_eq_getElem (by omega)]
  simp [List.getD, show o.length - 1 < o.length by omega]
theorem take_pred {o : List UInt8} {m : Nat} (h0 : 0 < m) (hm : m ≤ o.length) : o.take m = o.take (m - 1) ++ [o.getD (m - 1) 0] := by
  obtain ⟨k, rfl⟩ : ∃ k, m = k + 1 := ⟨m - 1, by omega⟩
  rw [List.take_add_one, List.getElem?_eq_getElem (by omega)]
  simp [List.getD, show k < o.length by omega]

set_option maxHeartbeats 6400000 in
set_option maxRecDepth 1000000 in
theorem single_any {l : List UInt8} {w : World} (hl : l.length ≤ 8192) :
    Calls Try.prog 13 #[.string ⟨l.toArray⟩] w fun e w' => e = .returned (.string ⟨(singleW l).toArray⟩) ∧ Below w.heap.size w w' := by
  have hz : (⟨l.toArray⟩ : ByteArray).size = l.length := by simp [ByteArray.size]
  have IX : Hid (∀ k, k < l.length → ∀ W, (Instr.index 9 (.string ⟨l.toArray⟩) (.int .i64 (k : Int))).run Try.prog W = .ok (.int .u8 ((l.getD k 0).toNat : Int)) W) := fun k hk W => idx_at hk W
  have N := hid (All.addNil (e := 5) (All.came w))
  have R0 : Hid (Sgl (singW l.length [] false l) l 0 [] false) := hid ⟨l.length, by omega, by simp⟩
  have RS : Hid (singleW l = finS (singW l.length [] false l)) := hid rfl
  generalize singleW l = RES at *
  generalize singW l.length [] false l = PF at *
  generalize ByteArray.mk l.toArray = S at *
  generalize hn : l.length = n at *
  have HN := hid hn
  clear hn
  go_enter Try.func13, Try.ntmps13
  go_wp2
  go_loopw [3, 4, 5] (fun ov qv iv wr => ∃ (i : Nat) (o : List UInt8) (q : Bool) (ao : Option Addr) (c : Nat), i ≤ n ∧ iv = .int .i64 (i : Int) ∧ qv = .bool q ∧ ov = .slice ao o.length c ∧ o.length ≤ 2 * i ∧ Hid (All (ownC 5 (.slice ao o.length c) (cellsB o) :: [inC w]) wr) ∧ Hid (Sgl PF l i o q)) (fun _ _ iv _ => n - (intOf iv).toNat)
  case atStart => exact ⟨0, [], false, none, 0, by omega, rfl, rfl, rfl, by simp, N, R0⟩
  case round =>
    obtain ⟨i, o, q, ao, c, hi, rfl, rfl, rfl, ho, hA, hS⟩ := hrel
    clear N R0
    by_cases hlt : i < n
    · have hlt' : (i : Int) < (n : Int) := by omega
      have ix := IX.out i hlt
      have hltL : Hid (i < l.length) := hid (by rw [HN.out]; exact hlt)
      generalize hb : l.getD i 0 = b at ix
      have HB := hid hb
      clear hb
      by_cases h32 : b.toNat = 32 ∧ q = false
      · obtain ⟨h32, hq⟩ := h32
        subst hq
        have bi : (b.toNat : Int) = 32 := by omega
        rw [bi] at ix
        by_cases h0 : o = []
        · subst h0
          have nx := hid (hS.out.skip hltL.out (by rw [HB.out]; exact h32) (Or.inl rfl))
          clear h32 bi
          go_wp2
          go_roundw
          case rel => exact ⟨i + 1, [], false, ao, c, by omega, by go_num, rfl, rfl, by simp, hA, nx⟩
          case measure => simp [intOf]; omega
        · obtain ⟨m, hm⟩ : ∃ m, o.length = m + 1 := ⟨o.length - 1, by have := List.length_pos_iff.2 h0; omega⟩
          have lst := last_at (o := o) (by omega)
          rw [hm, Nat.add_sub_cancel] at lst
          obtain ⟨g, p, hao, hcell⟩ := (reads_own hA.out).at_u8 m (by omega)
          subst hao
          generalize hx : o.getD m 0 = x at *
          clear hx
          by_cases hx32 : x.toNat = 32
          · have nx := hid (hS.out.skip hltL.out (by rw [HB.out]; exact h32) (Or.inr (by rw [lst, hx32])))
            have xi : (x.toNat : Int) = 32 := by omega
            rw [xi] at hcell
            have EL := hid hm
            clear h32 bi xi hx32 lst h0
            rw [hm] at hA ho ⊢
            clear hm
            go_wp2
            go_roundw
            case rel => exact ⟨i + 1, o, false, _, c, by omega, by go_num, rfl, by rw [EL.out], by rw [EL.out]; omega, hid (by rw [EL.out]; exact hA.out), nx⟩
            case measure => simp [intOf]; omega
          · have nx := hid (hS.out.blank hltL.out (by rw [HB.out]; exact h32) h0 (by rw [lst]; simpa using hx32))
            rw [HB.out] at nx
            have xi : ((x.toNat : Int) != 32) = true := by simp; omega
            obtain ⟨ao1, c1, w1, hr, A1⟩ := app_byte hA.out b (by omega)
            rw [bi] at hr
            rw [hm] at hr A1 ho ⊢
            have R := hid hr
            have A2 := hid A1
            have EL := hid (show (o ++ [b]).length = m + 1 + 1 by simp [hm])
            clear hr A1 h32 bi hx32 lst h0 hm hA
            go_wp2_with (at_builtin; refine wpList_append_run rfl _ _ 34 rfl _ _ _ _ rfl rfl R.out ?_)
            go_roundw
            case rel => exact ⟨i + 1, o ++ [b], false, ao1, c1, by omega, by go_num, rfl, by rw [EL.out], by rw [EL.out]; omega, hid (by rw [EL.out]; exact A2.out), nx⟩
            case measure => simp [intOf]; omega
      · obtain ⟨ao1, c1, w1, hr, A1⟩ := app_byte hA.out b (by omega)
        have R := hid hr
        have EL := hid (show (o ++ [b]).length = o.length + 1 by simp)
        cases q with
        | true =>
          clear h32
          by_cases h92 : b.toNat = 92
          · have bi : (b.toNat : Int) = 92 := by omega
            by_cases hl1 : i + 1 < n
            · have hl1' : (i : Int) + 1 < (n : Int) := by omega
              have ix1 := IX.out (i + 1) hl1
              rw [show ((i + 1 : Nat) : Int) = (i : Int) + 1 from by omega] at ix1
              have nx := hid (hS.out.esc (by rw [HN.out]; exact hl1) (by rw [HB.out]; exact h92))
              rw [HB.out] at nx
              generalize hb1 : l.getD (i + 1) 0 = b1 at *
              clear hb1
              obtain ⟨ao2, c2, w2, hr2, A3⟩ := app_byte A1 b1 (by simp; omega)
              have EL2 := hid (show (o ++ [b] ++ [b1]).length = o.length + 1 + 1 by simp)
              rw [EL.out] at hr2 A3
              have R2 := hid hr2
              have A4 := hid A3
              rw [bi] at R ix
              clear hr hr2 A1 A3 bi h92 hA EL
              generalize hno : o.length = no at *
              clear hno
              generalize (b1.toNat : Int) = b1i at *
              go_wp2_with (at_builtin; refine wpList_append_run rfl _ _ 34 rfl _ _ _ _ rfl rfl R.out ?_; refine Hid.out ?_)
              refine hid ?_
              go_wp2_with (at_builtin; refine wpList_append_run rfl _ _ 34 rfl _ _ _ _ rfl rfl R2.out ?_)
              go_roundw
              case rel => exact ⟨i + 2, o ++ [b] ++ [b1], true, ao2, c2, by omega, by go_num, rfl, by rw [EL2.out], by rw [EL2.out]; omega, hid (by rw [EL2.out]; exact A4.out), nx⟩
              case measure => simp [intOf]; omega
            · have hl1' : ¬ (i : Int) + 1 < (n : Int) := by omega
              have nx := hid (hS.out.last hltL.out (by rw [HN.out]; omega) (by rw [HB.out]; exact h92))
              rw [HB.out] at nx
              rw [bi] at R ix
              have A2 := hid A1
              clear hr A1 bi h92 hA
              generalize hno : o.length = no at *
              clear hno
              go_wp2_with (at_builtin; refine wpList_append_run rfl _ _ 34 rfl _ _ _ _ rfl rfl R.out ?_)
              go_roundw
              case rel => exact ⟨i + 1, o ++ [b], true, ao1, c1, by omega, by go_num, rfl, by rw [EL.out], by rw [EL.out]; omega, hid (by rw [EL.out]; exact A2.out), nx⟩
              case measure => simp [intOf]; omega
          · have n92 : ((b.toNat : Int) == 92) = false := by simp; omega
            by_cases h34 : b.toNat = 34
            · have bi : (b.toNat : Int) = 34 := by omega
              have nx := hid (hS.out.quote hltL.out (by rw [HB.out]; exact h34))
              rw [HB.out] at nx
              rw [bi] at R ix
              have A2 := hid A1
              clear hr A1 bi h92 h34 hA n92
              generalize hno : o.length = no at *
              clear hno
              go_wp2_with (at_builtin; refine wpList_append_run rfl _ _ 34 rfl _ _ _ _ rfl rfl R.out ?_)
              go_roundw
              case rel => exact ⟨i + 1, o ++ [b], false, ao1, c1, by omega, by go_num, rfl, by rw [EL.out], by rw [EL.out]; omega, hid (by rw [EL.out]; exact A2.out), nx⟩
              case measure => simp [intOf]; omega
            · have n34 : ((b.toNat : Int) == 34) = false := by simp; omega
              have nx := hid (hS.out.plain hltL.out (by simp) (by rw [HB.out]; rintro ⟨_, e⟩; exact h92 e) (by rw [HB.out]; exact h34))
              rw [HB.out] at nx
              have A2 := hid A1
              clear hr A1 h92 h34 hA
              generalize hno : o.length = no at *
              clear hno
              by_cases h32 : b.toNat = 32
              · have bi : (b.toNat : Int) = 32 := by omega
                rw [bi] at R ix
                clear bi h32 n92 n34
                go_wp2_with (at_builtin; refine wpList_append_run rfl _ _ 34 rfl _ _ _ _ rfl rfl R.out ?_)
                go_roundw
                case rel => exact ⟨i + 1, o ++ [b], true, ao1, c1, by omega, by go_num, rfl, by rw [EL.out], by rw [EL.out]; omega, hid (by rw [EL.out]; exact A2.out), nx⟩
                case measure => simp [intOf]; omega
              · have n32 : ((b.toNat : Int) == 32) = false := by simp; omega
                clear h32
                generalize (b.toNat : Int) = bi at *
                go_wp2_with (at_builtin; refine wpList_append_run rfl _ _ 34 rfl _ _ _ _ rfl rfl R.out ?_)
                go_roundw
                case rel => exact ⟨i + 1, o ++ [b], true, ao1, c1, by omega, by go_num, rfl, by rw [EL.out], by rw [EL.out]; omega, hid (by rw [EL.out]; exact A2.out), nx⟩
                case measure => simp [intOf]; omega
        | false =>
          have h32' : b.toNat ≠ 32 := fun e => h32 ⟨e, rfl⟩
          have n32 : ((b.toNat : Int) == 32) = false := by simp; omega
          clear h32
          have A2 := hid A1
          by_cases h34 : b.toNat = 34
          · have bi : (b.toNat : Int) = 34 := by omega
            have nx := hid (hS.out.quote hltL.out (by rw [HB.out]; exact h34))
            rw [HB.out] at nx
            rw [bi] at R ix
            clear hr A1 bi h34 hA n32 h32'
            generalize hno : o.length = no at *
            clear hno
            go_wp2_with (at_builtin; refine wpList_append_run rfl _ _ 34 rfl _ _ _ _ rfl rfl R.out ?_)
            go_roundw
            case rel => exact ⟨i + 1, o ++ [b], true, ao1, c1, by omega, by go_num, rfl, by rw [EL.out], by rw [EL.out]; omega, hid (by rw [EL.out]; exact A2.out), nx⟩
            case measure => simp [intOf]; omega
          · have n34 : ((b.toNat : Int) == 34) = false := by simp; omega
            have nx := hid (hS.out.plain hltL.out (by rw [HB.out]; rintro ⟨e, _⟩; exact h32' e) (by simp) (by rw [HB.out]; exact h34))
            rw [HB.out] at nx
            clear hr A1 h34 hA h32'
            generalize hno : o.length = no at *
            clear hno
            generalize (b.toNat : Int) = bi at *
            go_wp2_with (at_builtin; refine wpList_append_run rfl _ _ 34 rfl _ _ _ _ rfl rfl R.out ?_)
            go_roundw
            case rel => exact ⟨i + 1, o ++ [b], false, ao1, c1, by omega, by go_num, rfl, by rw [EL.out], by rw [EL.out]; omega, hid (by rw [EL.out]; exact A2.out), nx⟩
            case measure => simp [intOf]; omega
    · have hlt' : ¬ (i : Int) < (n : Int) := by omega
      have fin := hid (hS.out.fin (by rw [HN.out]; omega))
      have HR := hid (reads_own hA.out)
      have BL := hid (hA.out.into (w0 := w) (by simp))
      clear hA hS
      have T0 : Hid (q = false → RES = trimW (o.take o.length)) := hid (fun hq => by rw [RS.out, fin.out, List.take_length]; unfold finS; rw [if_pos hq])
      have T1 : Hid (q = true → RES = o) := hid (fun hq => by rw [RS.out, fin.out]; unfold finS; rw [hq, if_neg (by simp)])
      clear RS fin
      go_wp2
      go_loopw [3] (fun ov wr2 => ∃ m : Nat, m ≤ o.length ∧ ov = .slice ao m c ∧ wr2 = wr ∧ Hid (q = false → RES = trimW (o.take m)) ∧ Hid (q = true → m = o.length)) (fun ov _ => match ov with | .slice _ m _ => m | _ => 0)
      case atStart => exact ⟨o.length, Nat.le_refl _, rfl, rfl, T0, hid (fun _ => rfl)⟩
      case round =>
        obtain ⟨m, hm, rfl, rfl, hT, hQ⟩ := hrel
        have cv := conv_string (HR.out.take hm)
        cases m with
        | zero =>
          have fin : Hid (RES = o.take 0) := hid (by
            cases q with
            | false => rw [hT.out rfl]; simp [trimW]
            | true => rw [T1.out rfl, hQ.out rfl, List.take_length])
          go_wp2
          go_ret
          exact ⟨by rw [fin.out]; rfl, BL.out⟩
        | succ m =>
          obtain ⟨g, p, hao, hcell⟩ := HR.out.at_u8 m (by omega)
          subst hao
          have tp : Hid (o.take (m + 1) = o.take m ++ [o.getD m 0]) := hid (take_pred (m := m + 1) (by omega) hm)
          generalize hx : o.getD m 0 = x at *
          clear hx
          generalize hX : ByteArray.mk (o.take (m + 1)).toArray = X at *
          have HX := hid hX
          clear hX
          have hcap : m + 1 ≤ c := by have := HR.out; obtain ⟨_, _, e, hc, _⟩ := this; simp only [Value.slice.injEq] at e; omega
          by_cases hx32 : x.toNat = 32
          · have xi : (x.toNat : Int) = 32 := by omega
            rw [xi] at hcell
            cases q with
            | true =>
              have fin : Hid (RES = o.take (m + 1)) := hid (by rw [T1.out rfl, hQ.out rfl, List.take_length])
              go_wp2
              go_ret
              exact ⟨by rw [fin.out, HX.out]; rfl, BL.out⟩
            | false =>
              have nT : Hid (false = false → RES = trimW (o.take m)) := hid (fun _ => by rw [hT.out rfl, tp.out, trimW_blank _ _ hx32])
              clear xi hx32 tp HX hQ
              go_wp2
              go_roundw
              case rel => exact ⟨m, by omega, by go_num, trivial, hid (fun _ => nT.out rfl), hid (fun e => by cases e)⟩
              case measure => simp
          · have xi : ((x.toNat : Int) == 32) = false := by simp; omega
            have fin : Hid (RES = o.take (m + 1)) := hid (by
              cases q with
              | false => rw [hT.out rfl, tp.out, trimW_stop _ _ hx32]
              | true => rw [T1.out rfl, hQ.out rfl, List.take_length])
            clear hx32
            go_wp2
            go_ret
            exact ⟨by rw [fin.out, HX.out]; rfl, BL.out⟩
end Go.Proofs.Ytgmjjopfpenceaa
