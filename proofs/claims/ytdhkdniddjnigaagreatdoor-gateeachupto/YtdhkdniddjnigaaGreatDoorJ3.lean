import Derived.Test.YtdhkdniddjnigaaGreatDoorJ1
import Derived.Test.YtdhkdniddjnigaaGreatDoorJ2
import Derived.Lib.AtoiAllCases
import Derived.Shelf.Small.Strs
import Derived.Test.YtdhkdniddjnigaaGreatDoorProg
namespace Go.Proofs.YtdhkdniddjnigaaGreatDoor
open Go.RowKit
set_option linter.unusedVariables false

/-- What the library's variables hold. -/
structure Vars (w : World) : Prop where
  es : ∃ tp p, w.var? Tryz.prog "strconv.ErrSyntax" = some #[.iface tp p]
  er : ∃ tp p, w.var? Tryz.prog "strconv.ErrRange" = some #[.iface tp p]
  pw : Lib.TabIs Tryz.prog w "internal/strconv.uint64pow10" .u64 Lib.pow10Tab
theorem var_later {w w' : World} (hb : Below w.heap.size w w') {n : String} {cs : Array Value} (h : w.var? Tryz.prog n = some cs) : w'.var? Tryz.prog n = some cs := by
  unfold World.var? at h ⊢
  cases hg : Tryz.prog.globalNamed n with
  | none => rw [hg] at h; simp at h
  | some g =>
    rw [hg] at h
    simp only [Option.bind_some] at h ⊢
    by_cases hlt : g < w.heap.size
    · rw [hb.block g hlt]; exact h
    · rw [Array.getElem?_eq_none (by omega)] at h; simp at h
theorem Vars.later {w w' : World} (h : Vars w) (hb : Below w.heap.size w w') : Vars w' := by
  obtain ⟨⟨t1, p1, h1⟩, ⟨t2, p2, h2⟩, h3⟩ := h
  exact ⟨⟨t1, p1, var_later hb h1⟩, ⟨t2, p2, var_later hb h2⟩, var_later hb h3⟩

theorem grow_bel (w : World) (k : Nat) (os : Array Obj) : Below w.heap.size w (Sort.grow (w.drewN k) os) := by
  refine ⟨rfl, rfl, rfl, by simp [Sort.grow], fun j hj => ?_⟩
  show (w.heap ++ os)[j]? = _
  rw [Array.getElem?_append_left hj]

theorem Itoa_any {v : Int} {w : World} (V : Vars w) (h0 : 0 ≤ v) (h1 : v ≤ 9223372036854775807) : Calls Tryz.prog 61 #[.int .i64 v] w fun e w' => e = .returned (.string ⟨(Lib.itoa v).toArray⟩) ∧ Below w.heap.size w w' := by
  refine Calls.mono (Any.strconv_Itoa Tryz.laysM171 v (by omega) h1 w V.pw) ?_
  rintro e w' ⟨he, k, os, rfl⟩
  exact ⟨he, grow_bel w k os⟩
theorem Atoi_ok {l : List UInt8} {v : Int} {w : World} (hl : l.length ≤ 140737488355328) (h : Lib.atoiAll l = .ok v) : Calls Tryz.prog 192 #[.string ⟨l.toArray⟩] w fun e w' => e = .returned (.tuple #[.int .i64 v, .nilIface]) ∧ Below w.heap.size w w' := by
  have hz : (⟨l.toArray⟩ : ByteArray).size = l.length := by simp [ByteArray.size]
  refine Calls.mono (Any.strconv_Atoi_ok Tryz.laysC172 ⟨l.toArray⟩ (by rw [hz]; omega) v (by simpa using h) w) ?_
  rintro e w' ⟨he, rfl | ⟨t, rfl⟩⟩
  · exact ⟨he, Below.refl _ _⟩
  · exact ⟨he, Lib.bytesWorld_below _ _ _⟩
theorem Atoi_bad {l : List UInt8} {w : World} (V : Vars w) (hl : l.length ≤ 140737488355328) (h : ∀ v, Lib.atoiAll l ≠ .ok v) : Calls Tryz.prog 192 #[.string ⟨l.toArray⟩] w fun e w' => ∃ z t N, e = .returned (.tuple #[.int .i64 z, .iface t (.pointer (some ⟨N, 0, none⟩))]) ∧ Below w.heap.size w w' := by
  have hz : (⟨l.toArray⟩ : ByteArray).size = l.length := by simp [ByteArray.size]
  cases hA : Lib.atoiAll l with
  | ok v => exact absurd hA (h v)
  | «syntax» =>
    obtain ⟨tp, p, hv⟩ := V.es
    refine Calls.mono (Any.strconv_Atoi_syntax_var Tryz.laysC172 ⟨l.toArray⟩ (by rw [hz]; omega) (by simpa using hA) tp p w hv) ?_
    rintro e w' ⟨N, he, _, _, hb⟩
    exact ⟨_, _, N, he, hb⟩
  | range =>
    obtain ⟨tp, p, hv⟩ := V.er
    refine Calls.mono (Any.strconv_Atoi_range_var Tryz.laysC172 ⟨l.toArray⟩ (by rw [hz]; omega) (by simpa using hA) tp p w hv) ?_
    rintro e w' ⟨N, he, _, _, hb⟩
    exact ⟨_, _, N, he, hb⟩

/-- What Number answers. -/
def numA (l : List UInt8) : Value := .tuple #[.int .i64 (((numW l).getD 0 : Nat) : Int), .bool (numW l).isSome]

set_option maxHeartbeats 1000000 in
set_option maxRecDepth 1000000 in
theorem Number_any {l : List UInt8} {w : World} (V : Vars w) (hl : l.length ≤ 140737488355328) :
    Calls Tryz.prog 164 #[.string ⟨l.toArray⟩] w fun e w' => e = .returned (numA l) ∧ Below w.heap.size w w' := by
  cases hN : numW l with
  | some v =>
    have e1 : numA l = .tuple #[.int .i64 (v : Int), .bool true] := by unfold numA; rw [hN]; rfl
    rw [e1]
    have hle := numW_le hN
    have C := hid (Atoi_ok (w := w) hl (atoi_of hN))
    have IT : Hid (∀ W, Below w.heap.size w W → Calls Tryz.prog 61 #[.int .i64 (v : Int)] W fun e w' => e = .returned (.string ⟨l.toArray⟩) ∧ Below W.heap.size W w') := hid (fun W hb => by
      have := Itoa_any (v := (v : Int)) (V.later hb) (by omega) (by omega)
      have e2 : Lib.itoa (v : Int) = l := by
        unfold Lib.itoa
        rw [if_neg (by omega), Int.toNat_natCast]
        exact (numW_spelt hN).symm
      rw [e2] at this
      exact this)
    have ne : ((⟨l.toArray⟩ : ByteArray).toList != (⟨l.toArray⟩ : ByteArray).toList) = false := by simp
    have hv0 : ¬ (v : Int) < 0 := by omega
    clear e1 hN V hl
    generalize ByteArray.mk l.toArray = L at *
    go_enter Tryz.func164, Tryz.ntmps164
    go_wp2_with (go_at_call 192; refine C.out.mono ?_; rintro e w1 ⟨rfl, B1⟩; have Q := hid (IT.out w1 B1); have BB := hid B1; clear B1; refine Hid.out ?_)
    refine hid ?_
    go_wp2_with (go_at_call 61; refine Q.out.mono ?_; rintro e w2 ⟨rfl, B2⟩; have B3 := hid (BB.out.trans (B2.mono BB.out.size)); clear B2)
    go_ret2
    exact ⟨rfl, B3.out⟩
  | none =>
    have e1 : numA l = .tuple #[.int .i64 0, .bool false] := by unfold numA; rw [hN]; rfl
    rw [e1]
    by_cases hA : ∃ v, Lib.atoiAll l = .ok v
    · obtain ⟨v, hA⟩ := hA
      have hb := Lib.atoiAll_bounds hA
      have C := hid (Atoi_ok (w := w) hl hA)
      by_cases hv0 : v < 0
      · clear hb e1 hN V hl hA
        generalize ByteArray.mk l.toArray = L at *
        go_enter Tryz.func164, Tryz.ntmps164
        go_wp2_with (go_at_call 192; refine C.out.mono ?_; rintro e w1 ⟨rfl, B1⟩; have BB := hid B1; clear B1)
        go_ret2
        exact ⟨rfl, BB.out⟩
      · have hno := numW_none hN hb.2 (by omega)
        have IT : Hid (∀ W, Below w.heap.size w W → Calls Tryz.prog 61 #[.int .i64 v] W fun e w' => e = .returned (.string ⟨(Lib.itoa v).toArray⟩) ∧ Below W.heap.size W w') := hid (fun W hw => Itoa_any (V.later hw) (by omega) hb.2)
        have ne : ((⟨(Lib.itoa v).toArray⟩ : ByteArray).toList == (⟨l.toArray⟩ : ByteArray).toList) = false := by
          rw [ba_ne]; exact decide_eq_false hno
        clear hb e1 hN V hl hA hno
        generalize ByteArray.mk (Lib.itoa v).toArray = M at *
        generalize ByteArray.mk l.toArray = L at *
        have ne' : (M.toList != L.toList) = true := by simp only [bne, ne]; rfl
        go_enter Tryz.func164, Tryz.ntmps164
        go_wp2_with (go_at_call 192; refine C.out.mono ?_; rintro e w1 ⟨rfl, B1⟩; have Q := hid (IT.out w1 B1); have BB := hid B1; clear B1; refine Hid.out ?_)
        refine hid ?_
        go_wp2_with (go_at_call 61; refine Q.out.mono ?_; rintro e w2 ⟨rfl, B2⟩; have B3 := hid (BB.out.trans (B2.mono BB.out.size)); clear B2)
        go_ret2
        exact ⟨rfl, B3.out⟩
    · have C := hid (Atoi_bad V hl (fun v e => hA ⟨v, e⟩))
      clear e1 hN V hl hA
      generalize ByteArray.mk l.toArray = L at *
      go_enter Tryz.func164, Tryz.ntmps164
      go_wp2_with (go_at_call 192; refine C.out.mono ?_; rintro e w1 ⟨z, t, N, rfl, B1⟩; have BB := hid B1; clear B1)
      go_ret2
      exact ⟨rfl, BB.out⟩
end Go.Proofs.YtdhkdniddjnigaaGreatDoor

namespace Go.Proofs.YtdhkdniddjnigaaGreatDoor
open Go.RowKit
set_option linter.unusedVariables false

theorem reads_one {w : World} (b : UInt8) : Reads (w.alloc (.cells #[.int .u8 (b.toNat : Int)] 5)) (.slice (some ⟨w.heap.size, 0, none⟩) 1 1) [b] := by
  refine ⟨some ⟨w.heap.size, 0, none⟩, 1, rfl, by simp, Or.inr ⟨w.heap.size, 0, rfl, by simp, fun j u hu => ?_⟩⟩
  match j with
  | 0 =>
    simp only [cellsB, List.map_cons, List.map_nil, List.getElem?_cons_zero, Option.some.injEq] at hu
    subst hu
    rw [cell_at (heap_alloc_new w _)]; rfl
  | j + 1 => simp [cellsB] at hu
theorem conv_one {w : World} (b : UInt8) : (convert 40 9 (.slice (some ⟨w.heap.size, 0, none⟩) 1 1)).run Tryz.prog (w.alloc (.cells #[.int .u8 (b.toNat : Int)] 5)) = .ok (.string ⟨#[b]⟩) (w.alloc (.cells #[.int .u8 (b.toNat : Int)] 5)) := by
  exact conv_string (reads_one b)

theorem conv_kept {w w' : World} {b : UInt8} (hb : Below (w.alloc (.cells #[.int .u8 (b.toNat : Int)] 5)).heap.size (w.alloc (.cells #[.int .u8 (b.toNat : Int)] 5)) w') : (convert 40 9 (.slice (some ⟨w.heap.size, 0, none⟩) 1 1)).run Tryz.prog w' = .ok (.string ⟨#[b]⟩) w' := by
  have : Reads (w.alloc (.cells #[.int .u8 (b.toNat : Int)] 5)) (.slice (some ⟨w.heap.size, 0, none⟩) 1 1) [b] := reads_one b
  exact conv_string (this.below hb)

set_option maxHeartbeats 1600000 in
set_option maxRecDepth 1000000 in
theorem Digits_any : ∀ (n : Nat) (w : World), n ≤ 9223372036854775807 → Calls Tryz.prog 44 #[.int .i64 (n : Int)] w fun e w' => e = .returned (.string ⟨(Lib.decDigits n).toArray⟩) ∧ Below w.heap.size w w' := by
  intro n
  induction n using Nat.strongRecOn with
  | _ n ih =>
    intro w hn
    by_cases h10 : n < 10
    · have e1 : Lib.decDigits n = [UInt8.ofNat (48 + n)] := by rw [Lib.decDigits, dif_pos h10]
      rw [e1]
      have cv := conv_one (w := w) (UInt8.ofNat (48 + n))
      rw [toNat_dig h10, show ((48 + n : Nat) : Int) = 48 + (n : Int) from by omega] at cv
      have h10' : (n : Int) < 10 := by omega
      have hw : IntKind.u8.wrap (48 + (n : Int)) = 48 + n := by
        have : ∀ x : Fin 10, IntKind.u8.wrap (48 + (x.val : Int)) = 48 + x.val := by decide +kernel
        exact this ⟨n, h10⟩
      have bel := hid (ba w (.cells #[.int .u8 (48 + (n : Int))] 5))
      clear ih e1
      generalize ByteArray.mk #[UInt8.ofNat (48 + n)] = X at *
      go_enter Tryz.func44, Tryz.ntmps44
      go_wp2
      go_ret
      exact ⟨rfl, bel.out⟩
    · have e1 : Lib.decDigits n = Lib.decDigits (n / 10) ++ [UInt8.ofNat (48 + n % 10)] := by rw [Lib.decDigits, dif_neg h10]
      rw [e1]
      have C := hid (fun W => ih (n / 10) (by omega) W (by omega))
      have hm : n % 10 < 10 := by omega
      have hrem : (n : Int) % 10 = ((n % 10 : Nat) : Int) := by omega
      have htm : (n : Int).tmod 10 = ((n % 10 : Nat) : Int) := by rw [Int.tmod_eq_emod_of_nonneg (by omega)]; omega
      have hdiv : (n : Int) / 10 = ((n / 10 : Nat) : Int) := by omega
      have h10' : ¬ (n : Int) < 10 := by omega
      have eX : Hid (∀ a b : List UInt8, (⟨(a ++ b).toArray⟩ : ByteArray) = ⟨a.toArray⟩ ++ ⟨b.toArray⟩) := hid (fun a b => by
        apply ByteArray.ext
        simp)
      have hqn : n / 10 ≤ n := by omega
      clear ih e1
      generalize n % 10 = r at *
      generalize n / 10 = q at *
      rw [eX.out]
      have cv := fun W : World => conv_one (w := W) (UInt8.ofNat (48 + r))
      have hk : Hid (∀ W W' : World, Below (W.alloc (.cells #[.int .u8 ((UInt8.ofNat (48 + r)).toNat : Int)] 5)).heap.size (W.alloc (.cells #[.int .u8 ((UInt8.ofNat (48 + r)).toNat : Int)] 5)) W' → (convert 40 9 (.slice (some ⟨W.heap.size, 0, none⟩) 1 1)).run Tryz.prog W' = .ok (.string ⟨#[UInt8.ofNat (48 + r)]⟩) W') := hid (fun W W' hb => conv_kept hb)
      rw [toNat_dig hm, show ((48 + r : Nat) : Int) = 48 + (r : Int) from by omega] at cv hk
      have hw : IntKind.u8.wrap (48 + (r : Int)) = 48 + (r : Int) := by
        have : ∀ x : Fin 10, IntKind.u8.wrap (48 + (x.val : Int)) = 48 + x.val := by decide +kernel
        exact this ⟨r, hm⟩
      have wq : IntKind.i64.wrap (q : Int) = q := by rw [IntKind.wrap_i64]; omega
      have wr1 : IntKind.i64.wrap (r : Int) = r := by rw [IntKind.wrap_i64]; omega
      have wr2 : IntKind.i64.wrap (48 + (r : Int)) = 48 + (r : Int) := by rw [IntKind.wrap_i64]; omega
      have e3 : (⟨[UInt8.ofNat (48 + r)].toArray⟩ : ByteArray) = ⟨#[UInt8.ofNat (48 + r)]⟩ := rfl
      rw [e3]
      have hsum : ¬ 9223372036854775807 < (⟨(Lib.decDigits q).toArray⟩ : ByteArray).size + (⟨#[UInt8.ofNat (48 + r)]⟩ : ByteArray).size := by
        have := digits_short (v := q) (by omega)
        simp [ByteArray.size]
        omega
      generalize ByteArray.mk #[UInt8.ofNat (48 + r)] = X at *
      generalize ByteArray.mk (Lib.decDigits q).toArray = Y at *
      clear eX e3
      have bel := hid (fun W : World => ba W (.cells #[.int .u8 (48 + (r : Int))] 5))
      have hk2 : Hid (∀ W' : World, Below (w.alloc (.cells #[.int .u8 (48 + (r : Int))] 5)).drew.heap.size (w.alloc (.cells #[.int .u8 (48 + (r : Int))] 5)).drew W' → (convert 40 9 (.slice (some ⟨w.heap.size, 0, none⟩) 1 1)).run Tryz.prog W' = .ok (.string X) W') := hid (fun W' hb => hk.out w.drew W' hb)
      have cvw : (convert 40 9 (.slice (some ⟨w.heap.size, 0, none⟩) 1 1)).run Tryz.prog (w.alloc (.cells #[.int .u8 (48 + (r : Int))] 5)).drew = .ok (.string X) (w.alloc (.cells #[.int .u8 (48 + (r : Int))] 5)).drew := cv w.drew
      have b0 := hid (bd w)
      go_enter Tryz.func44, Tryz.ntmps44
      go_wp2_with fail
      go_region_law (go_simp; go_at_call 44; refine (C.out _).mono ?_; rintro e w5 ⟨rfl, B5⟩; (try have cv2 := hk2.out _ B5); have BB := hid B5; clear B5)
      all_goals (go_wp2; go_ret; refine ⟨rfl, ?_⟩; first | exact b0.out.trans (BB.out.trans ((bel.out _).mono BB.out.size)) | exact b0.out.trans ((bel.out w.drew).trans (BB.out.mono (bel.out w.drew).size)))
end Go.Proofs.YtdhkdniddjnigaaGreatDoor

namespace Go.Proofs.YtdhkdniddjnigaaGreatDoor
open Go.RowKit
set_option linter.unusedVariables false

abbrev rdV (st : Int) (wv dv : Value) (op es cd : Int) : List Value := [.int .i64 st, wv, dv, .int .i64 op, .int .i64 es, .int .u8 cd]
/-- A reader's parts. -/
abbrev rdL (B : Nat) (st : Int) (wv dv : Value) (op es cd : Int) (ws : Ws) (wd : List UInt8) : List Comp := [blkC B (rdV st wv dv op es cd) 209, ownC 9 wv (txW ws), ownC 5 dv (cellsB wd)]

theorem rd_cells {B : Nat} {st : Int} {wv dv : Value} {op es cd : Int} {cs : List Comp} {w : World} (h : All (blkC B (rdV st wv dv op es cd) 209 :: cs) w) :
    (w.cell? ⟨B, 0, none⟩ = some (.int .i64 st) ∧ w.cell? ⟨B, 1, none⟩ = some wv ∧ w.cell? ⟨B, 2, none⟩ = some dv ∧ w.cell? ⟨B, 3, none⟩ = some (.int .i64 op) ∧ w.cell? ⟨B, 4, none⟩ = some (.int .i64 es) ∧ w.cell? ⟨B, 5, none⟩ = some (.int .u8 cd)) ∧ ∀ j, w.frozen? ⟨B, j, none⟩ = false := by
  have hb := h.1.2.1
  exact ⟨⟨by rw [cell_at hb]; rfl, by rw [cell_at hb]; rfl, by rw [cell_at hb]; rfl, by rw [cell_at hb]; rfl, by rw [cell_at hb]; rfl, by rw [cell_at hb]; rfl⟩, fun j => free_at hb j⟩

set_option maxRecDepth 1000000 in
theorem begin_any {B : Nat} {st s : Int} {wv dv : Value} {op es cd : Int} {ws : Ws} {wd : List UInt8} {cs : List Comp} {w : World} (h : All (rdL B st wv dv op es cd ws wd ++ cs) w) :
    Calls Tryz.prog 157 #[ptr B, .int .i64 s] w fun e w' => e = .returned (.tuple #[]) ∧ All (rdL B s wv (.slice none 0 0) op es cd ws [] ++ cs) w' := by
  obtain ⟨⟨s0, s1, s2, s3, s4, s5⟩, hf⟩ := rd_cells h
  have f0 := hf 0
  have f2 := hf 2
  have A1 := (h.setBlk 2 (.slice none 0 0)).setBlk 0 (.int .i64 s)
  have A2 : Hid (All (rdL B s wv (.slice none 0 0) op es cd ws [] ++ cs) ((w.setCell ⟨B, 2, none⟩ (.slice none 0 0)).setCell ⟨B, 0, none⟩ (.int .i64 s))) := by
    have A3 : All (blkC B (rdV s wv (.slice none 0 0) op es cd) 209 :: ownC 9 wv (txW ws) :: cs) ((w.setCell ⟨B, 2, none⟩ (.slice none 0 0)).setCell ⟨B, 0, none⟩ (.int .i64 s)) := by
      have := A1.perm (ds := ownC 5 dv (cellsB wd) :: blkC B (rdV s wv (.slice none 0 0) op es cd) 209 :: ownC 9 wv (txW ws) :: cs) (by
        refine List.Perm.trans ?_ (List.perm_middle (l₁ := [blkC B (rdV s wv (.slice none 0 0) op es cd) 209, ownC 9 wv (txW ws)]))
        exact List.Perm.refl _)
      exact this.tail
    have := (All.addNil (e := 5) A3).perm (ds := rdL B s wv (.slice none 0 0) op es cd ws [] ++ cs) (by
      refine List.Perm.symm (List.Perm.trans ?_ (List.perm_middle (l₁ := [blkC B (rdV s wv (.slice none 0 0) op es cd) 209, ownC 9 wv (txW ws)])))
      exact List.Perm.refl _)
    exact this
  clear A1 h hf
  go_enter Tryz.func157, Tryz.ntmps157
  go_wp2
  go_end0
  exact ⟨rfl, A2.out⟩

theorem perm3a {α : Type} (a b c : α) (cs : List α) : (a :: b :: c :: cs).Perm (c :: a :: b :: cs) := by
  refine List.Perm.trans ?_ (List.perm_middle (l₁ := [a, b]) (a := c) (l₂ := cs))
  exact List.Perm.refl _

set_option maxHeartbeats 800000 in
set_option maxRecDepth 1000000 in
theorem take_any {B : Nat} {st : Int} {wv dv : Value} {op es cd : Int} {ws : Ws} {wd : List UInt8} {b : UInt8} {cs : List Comp} {w : World} (h : All (rdL B st wv dv op es cd ws wd ++ cs) w) (hl : wd.length + 1 ≤ 140737488355328) :
    Calls Tryz.prog 208 #[ptr B, .int .u8 (b.toNat : Int)] w fun e w' => e = .returned (.tuple #[]) ∧ ∃ dv', All (rdL B 3 wv dv' op es cd ws (wd ++ [b]) ++ cs) w' := by
  obtain ⟨⟨s0, s1, s2, s3, s4, s5⟩, hf⟩ := rd_cells h
  obtain ⟨ao0, c0, rfl⟩ := owns_form (h.tail.tail.1.2.1 : w.ownsRow 0 5 1 dv _ _)
  have hBw : B < w.heap.size := (h.1.2.2 B (by simp [blkC]))
  obtain ⟨ao, c, w1, hr, A1⟩ := app_byte (h.perm (perm3a _ _ _ _)) b hl
  have hb1 := A1.tail.1.2.1
  obtain ⟨⟨t0, t1, t2, t3, t4, t5⟩, hf1⟩ := rd_cells A1.tail
  have f0 := hf1 0
  have f2 := hf1 2
  have A2 := hid (((A1.perm (perm3a _ _ _ _).symm).setBlk 2 (.slice ao (wd.length + 1) c)).setBlk 0 (.int .i64 3))
  rw [cellsB_length] at *
  have R := hid hr
  clear hr A1 h hf1 hb1 hf
  generalize hn : wd.length = n at *
  clear hn
  generalize (b.toNat : Int) = bi at *
  go_enter Tryz.func208, Tryz.ntmps208
  go_wp2_with (at_builtin; refine wpList_append_run rfl _ _ 40 rfl _ _ _ _ rfl rfl R.out ?_)
  go_end0
  exact ⟨rfl, _, A2.out⟩
end Go.Proofs.YtdhkdniddjnigaaGreatDoor

namespace Go.Proofs.YtdhkdniddjnigaaGreatDoor
open Go.RowKit
set_option linter.unusedVariables false

set_option maxHeartbeats 1600000 in
set_option maxRecDepth 1000000 in
theorem end_any {B : Nat} {st : Int} {wv dv : Value} {op es cd : Int} {ws : Ws} {wd : List UInt8} {cs : List Comp} {w : World} (h : All (rdL B st wv dv op es cd ws wd ++ cs) w) (hl : ws.length + 1 ≤ 1000000000000) :
    Calls Tryz.prog 159 #[ptr B] w fun e w' => e = .returned (.tuple #[]) ∧ ∃ wv', All (rdL B st wv' dv op es cd (ws ++ [wd]) wd ++ cs) w' := by
  have h := h.drew
  obtain ⟨⟨s0, s1, s2, s3, s4, s5⟩, hf⟩ := rd_cells h
  obtain ⟨ao0, c0, rfl⟩ := owns_form (h.tail.tail.1.2.1 : w.drew.ownsRow 0 5 1 dv _ _)
  obtain ⟨ao1, c1, rfl⟩ := owns_form (h.tail.1.2.1 : w.drew.ownsRow 0 9 1 wv _ _)
  have hBw : B < w.drew.heap.size := (h.1.2.2 B (by simp [blkC]))
  have cv := conv_string (reads_own h.tail.tail)
  have u1 : (w.alloc (.cells #[.string ⟨wd.toArray⟩] 9)).cell? ⟨B, 1, none⟩ = _ := cell_under (ba w.drew (.cells #[.string ⟨wd.toArray⟩] 9)) hBw s1
  obtain ⟨ao, c, w1, hr, A1⟩ := app_txt h.swap wd hl
  obtain ⟨⟨t0, t1, t2, t3, t4, t5⟩, hf1⟩ := rd_cells A1.swap
  have f1 := hf1 1
  have A2 := hid (A1.swap.setBlk 1 (.slice ao (ws.length + 1) c))
  rw [txW_length, cellsB_length] at *
  have R := hid hr
  clear hr A1 h hf1 hf
  generalize hn : wd.length = n at *
  clear hn
  generalize hm : ws.length = m at *
  clear hm
  generalize hx : ByteArray.mk wd.toArray = X at *
  clear hx
  go_enter Tryz.func159, Tryz.ntmps159
  go_wp2_with fail
  go_region_law (refine step_append_run (by rfl) (.tmp 6) (.tmp 12) 43 (by rfl) _ _ _ _ (by rfl) (by rfl) R.out ?_)
  all_goals (go_end0; exact ⟨rfl, _, A2.out⟩)
end Go.Proofs.YtdhkdniddjnigaaGreatDoor

/- strings.IndexByte at this program: which number is which. -/
namespace Go.Proofs
open Go.Shelf
def Tryz.lays137_ren : Go.Shelf.Ren := ⟨fun | 137 => 188 | 217 => 209 | 266 => 222 | n => n, fun | 9 => 9 | 5 => 5 | 3 => 3 | n => n, fun | n => n⟩
theorem Tryz.lays137 : Go.Proofs.Lays.n137 Tryz.prog Tryz.lays137_ren := {
  mixed := by kernel_rfl
  f137 := Tryz.func188.trans (congrArg some (by kernel_rfl))
  f217 := Tryz.func209.trans (congrArg some (by kernel_rfl))
  f266 := Tryz.func222.trans (congrArg some (by kernel_rfl))
  t3 := Tryz.underlying3
  a3 := Tryz.isAgg3
  z3 := Tryz.sizeOf3
  v3 := Tryz.zeroValue3
  t5 := Tryz.underlying5
  a5 := Tryz.isAgg5
  z5 := Tryz.sizeOf5
  v5 := Tryz.zeroValue5
  t9 := Tryz.underlying9
  a9 := Tryz.isAgg9
  z9 := Tryz.sizeOf9
  v9 := Tryz.zeroValue9 }
end Go.Proofs

namespace Go.Proofs.YtdhkdniddjnigaaGreatDoor
open Go.RowKit
set_option linter.unusedVariables false

def bareI (k : Int) : Bool := decide ((97 ≤ k ∧ k ≤ 122) ∨ (65 ≤ k ∧ k ≤ 90) ∨ (48 ≤ k ∧ k ≤ 57) ∨ k = 45 ∨ k = 95 ∨ k = 46 ∨ k = 47)
theorem bareI_nat (n : Nat) : bareI (n : Int) = bareN n := by
  unfold bareI bareN
  rw [Bool.eq_iff_iff]
  simp only [decide_eq_true_eq]
  omega
def prnI (k : Int) : Bool := decide (32 ≤ k ∧ k ≤ 126)
theorem prnI_nat (n : Nat) : prnI (n : Int) = prnN n := by
  unfold prnI prnN
  rw [Bool.eq_iff_iff]
  simp only [decide_eq_true_eq]
  omega

set_option maxRecDepth 1000000 in
theorem isBare_int (k : Int) (w : World) : Calls Tryz.prog 158 #[.int .u8 k] w fun e w' => e = .returned (.bool (bareI k)) ∧ w' = w := by
  have key : ∀ b, bareI k = b → Hid (bareI k = b) := fun b h => h
  by_cases e45 : k = 45
  · subst e45
    have H := key true (decide_eq_true (by omega))
    clear key
    go_enter Tryz.func158, Tryz.ntmps158
    go_wp2
    go_ret
    exact ⟨by rw [H.out]; rfl, rfl⟩
  have n45 : (k == 45) = false := by simpa using e45
  by_cases e95 : k = 95
  · subst e95
    have H := key true (decide_eq_true (by omega))
    clear key
    go_enter Tryz.func158, Tryz.ntmps158
    go_wp2
    go_ret
    exact ⟨by rw [H.out]; rfl, rfl⟩
  have n95 : (k == 95) = false := by simpa using e95
  by_cases e46 : k = 46
  · subst e46
    have H := key true (decide_eq_true (by omega))
    clear key
    go_enter Tryz.func158, Tryz.ntmps158
    go_wp2
    go_ret
    exact ⟨by rw [H.out]; rfl, rfl⟩
  have n46 : (k == 46) = false := by simpa using e46
  by_cases e47 : k = 47
  · subst e47
    have H := key true (decide_eq_true (by omega))
    clear key
    go_enter Tryz.func158, Tryz.ntmps158
    go_wp2
    go_ret
    exact ⟨by rw [H.out]; rfl, rfl⟩
  have n47 : (k == 47) = false := by simpa using e47
  by_cases a97 : 97 ≤ k
  · by_cases b122 : k ≤ 122
    · have H := key true (decide_eq_true (by omega))
      clear key
      go_enter Tryz.func158, Tryz.ntmps158
      go_wp2
      go_ret
      exact ⟨by rw [H.out]; rfl, rfl⟩
    · by_cases a65 : 65 ≤ k
      · by_cases b90 : k ≤ 90
        · have H := key true (decide_eq_true (by omega))
          clear key
          go_enter Tryz.func158, Tryz.ntmps158
          go_wp2
          go_ret
          exact ⟨by rw [H.out]; rfl, rfl⟩
        · by_cases a48 : 48 ≤ k
          · by_cases b57 : k ≤ 57
            · have H := key true (decide_eq_true (by omega))
              clear key
              go_enter Tryz.func158, Tryz.ntmps158
              go_wp2
              go_ret
              exact ⟨by rw [H.out]; rfl, rfl⟩
            · have H := key false (decide_eq_false (by omega))
              clear key
              go_enter Tryz.func158, Tryz.ntmps158
              go_wp2
              go_ret
              exact ⟨by rw [H.out]; rfl, rfl⟩
          · have H := key false (decide_eq_false (by omega))
            clear key
            go_enter Tryz.func158, Tryz.ntmps158
            go_wp2
            go_ret
            exact ⟨by rw [H.out]; rfl, rfl⟩
      · by_cases a48 : 48 ≤ k
        · by_cases b57 : k ≤ 57
          · have H := key true (decide_eq_true (by omega))
            clear key
            go_enter Tryz.func158, Tryz.ntmps158
            go_wp2
            go_ret
            exact ⟨by rw [H.out]; rfl, rfl⟩
          · have H := key false (decide_eq_false (by omega))
            clear key
            go_enter Tryz.func158, Tryz.ntmps158
            go_wp2
            go_ret
            exact ⟨by rw [H.out]; rfl, rfl⟩
        · have H := key false (decide_eq_false (by omega))
          clear key
          go_enter Tryz.func158, Tryz.ntmps158
          go_wp2
          go_ret
          exact ⟨by rw [H.out]; rfl, rfl⟩
  · by_cases a65 : 65 ≤ k
    · by_cases b90 : k ≤ 90
      · have H := key true (decide_eq_true (by omega))
        clear key
        go_enter Tryz.func158, Tryz.ntmps158
        go_wp2
        go_ret
        exact ⟨by rw [H.out]; rfl, rfl⟩
      · by_cases a48 : 48 ≤ k
        · by_cases b57 : k ≤ 57
          · have H := key true (decide_eq_true (by omega))
            clear key
            go_enter Tryz.func158, Tryz.ntmps158
            go_wp2
            go_ret
            exact ⟨by rw [H.out]; rfl, rfl⟩
          · have H := key false (decide_eq_false (by omega))
            clear key
            go_enter Tryz.func158, Tryz.ntmps158
            go_wp2
            go_ret
            exact ⟨by rw [H.out]; rfl, rfl⟩
        · have H := key false (decide_eq_false (by omega))
          clear key
          go_enter Tryz.func158, Tryz.ntmps158
          go_wp2
          go_ret
          exact ⟨by rw [H.out]; rfl, rfl⟩
    · by_cases a48 : 48 ≤ k
      · by_cases b57 : k ≤ 57
        · have H := key true (decide_eq_true (by omega))
          clear key
          go_enter Tryz.func158, Tryz.ntmps158
          go_wp2
          go_ret
          exact ⟨by rw [H.out]; rfl, rfl⟩
        · have H := key false (decide_eq_false (by omega))
          clear key
          go_enter Tryz.func158, Tryz.ntmps158
          go_wp2
          go_ret
          exact ⟨by rw [H.out]; rfl, rfl⟩
      · have H := key false (decide_eq_false (by omega))
        clear key
        go_enter Tryz.func158, Tryz.ntmps158
        go_wp2
        go_ret
        exact ⟨by rw [H.out]; rfl, rfl⟩

theorem isBare_any (b : UInt8) (w : World) : Calls Tryz.prog 158 #[.int .u8 (b.toNat : Int)] w fun e w' => e = .returned (.bool (bareN b.toNat)) ∧ w' = w := by
  rw [← bareI_nat]
  exact isBare_int _ _

set_option maxRecDepth 1000000 in
theorem rbare_int (k : Int) (w : World) : Calls Tryz.prog 136 #[.int .u8 k] w fun e w' => e = .returned (.bool (bareI k)) ∧ w' = w := by
  have key : ∀ b, bareI k = b → Hid (bareI k = b) := fun b h => h
  by_cases a97 : 97 ≤ k
  · by_cases b122 : k ≤ 122
    · have H := key true (decide_eq_true (by omega))
      clear key
      go_enter Tryz.func136, Tryz.ntmps136
      go_wp2
      go_ret
      exact ⟨by rw [H.out]; rfl, rfl⟩
    · by_cases a65 : 65 ≤ k
      · by_cases b90 : k ≤ 90
        · have H := key true (decide_eq_true (by omega))
          clear key
          go_enter Tryz.func136, Tryz.ntmps136
          go_wp2
          go_ret
          exact ⟨by rw [H.out]; rfl, rfl⟩
        · by_cases a48 : 48 ≤ k
          · by_cases b57 : k ≤ 57
            · have H := key true (decide_eq_true (by omega))
              clear key
              go_enter Tryz.func136, Tryz.ntmps136
              go_wp2
              go_ret
              exact ⟨by rw [H.out]; rfl, rfl⟩
            · by_cases e45 : k = 45
              · subst e45
                have H := key true (decide_eq_true (by omega))
                clear key
                go_enter Tryz.func136, Tryz.ntmps136
                go_wp2
                go_ret
                exact ⟨by rw [H.out]; rfl, rfl⟩
              have n45 : (k == 45) = false := by simpa using e45
              by_cases e95 : k = 95
              · subst e95
                have H := key true (decide_eq_true (by omega))
                clear key
                go_enter Tryz.func136, Tryz.ntmps136
                go_wp2
                go_ret
                exact ⟨by rw [H.out]; rfl, rfl⟩
              have n95 : (k == 95) = false := by simpa using e95
              by_cases e46 : k = 46
              · subst e46
                have H := key true (decide_eq_true (by omega))
                clear key
                go_enter Tryz.func136, Tryz.ntmps136
                go_wp2
                go_ret
                exact ⟨by rw [H.out]; rfl, rfl⟩
              have n46 : (k == 46) = false := by simpa using e46
              by_cases e47 : k = 47
              · subst e47
                have H := key true (decide_eq_true (by omega))
                clear key
                go_enter Tryz.func136, Tryz.ntmps136
                go_wp2
                go_ret
                exact ⟨by rw [H.out]; rfl, rfl⟩
              have n47 : (k == 47) = false := by simpa using e47
              have H := key false (decide_eq_false (by omega))
              clear key
              go_enter Tryz.func136, Tryz.ntmps136
              go_wp2
              go_ret
              exact ⟨by rw [H.out]; rfl, rfl⟩
          · by_cases e45 : k = 45
            · subst e45
              have H := key true (decide_eq_true (by omega))
              clear key
              go_enter Tryz.func136, Tryz.ntmps136
              go_wp2
              go_ret
              exact ⟨by rw [H.out]; rfl, rfl⟩
            have n45 : (k == 45) = false := by simpa using e45
            by_cases e95 : k = 95
            · subst e95
              have H := key true (decide_eq_true (by omega))
              clear key
              go_enter Tryz.func136, Tryz.ntmps136
              go_wp2
              go_ret
              exact ⟨by rw [H.out]; rfl, rfl⟩
            have n95 : (k == 95) = false := by simpa using e95
            by_cases e46 : k = 46
            · subst e46
              have H := key true (decide_eq_true (by omega))
              clear key
              go_enter Tryz.func136, Tryz.ntmps136
              go_wp2
              go_ret
              exact ⟨by rw [H.out]; rfl, rfl⟩
            have n46 : (k == 46) = false := by simpa using e46
            by_cases e47 : k = 47
            · subst e47
              have H := key true (decide_eq_true (by omega))
              clear key
              go_enter Tryz.func136, Tryz.ntmps136
              go_wp2
              go_ret
              exact ⟨by rw [H.out]; rfl, rfl⟩
            have n47 : (k == 47) = false := by simpa using e47
            have H := key false (decide_eq_false (by omega))
            clear key
            go_enter Tryz.func136, Tryz.ntmps136
            go_wp2
            go_ret
            exact ⟨by rw [H.out]; rfl, rfl⟩
      · by_cases a48 : 48 ≤ k
        · by_cases b57 : k ≤ 57
          · have H := key true (decide_eq_true (by omega))
            clear key
            go_enter Tryz.func136, Tryz.ntmps136
            go_wp2
            go_ret
            exact ⟨by rw [H.out]; rfl, rfl⟩
          · by_cases e45 : k = 45
            · subst e45
              have H := key true (decide_eq_true (by omega))
              clear key
              go_enter Tryz.func136, Tryz.ntmps136
              go_wp2
              go_ret
              exact ⟨by rw [H.out]; rfl, rfl⟩
            have n45 : (k == 45) = false := by simpa using e45
            by_cases e95 : k = 95
            · subst e95
              have H := key true (decide_eq_true (by omega))
              clear key
              go_enter Tryz.func136, Tryz.ntmps136
              go_wp2
              go_ret
              exact ⟨by rw [H.out]; rfl, rfl⟩
            have n95 : (k == 95) = false := by simpa using e95
            by_cases e46 : k = 46
            · subst e46
              have H := key true (decide_eq_true (by omega))
              clear key
              go_enter Tryz.func136, Tryz.ntmps136
              go_wp2
              go_ret
              exact ⟨by rw [H.out]; rfl, rfl⟩
            have n46 : (k == 46) = false := by simpa using e46
            by_cases e47 : k = 47
            · subst e47
              have H := key true (decide_eq_true (by omega))
              clear key
              go_enter Tryz.func136, Tryz.ntmps136
              go_wp2
              go_ret
              exact ⟨by rw [H.out]; rfl, rfl⟩
            have n47 : (k == 47) = false := by simpa using e47
            have H := key false (decide_eq_false (by omega))
            clear key
            go_enter Tryz.func136, Tryz.ntmps136
            go_wp2
            go_ret
            exact ⟨by rw [H.out]; rfl, rfl⟩
        · by_cases e45 : k = 45
          · subst e45
            have H := key true (decide_eq_true (by omega))
            clear key
            go_enter Tryz.func136, Tryz.ntmps136
            go_wp2
            go_ret
            exact ⟨by rw [H.out]; rfl, rfl⟩
          have n45 : (k == 45) = false := by simpa using e45
          by_cases e95 : k = 95
          · subst e95
            have H := key true (decide_eq_true (by omega))
            clear key
            go_enter Tryz.func136, Tryz.ntmps136
            go_wp2
            go_ret
            exact ⟨by rw [H.out]; rfl, rfl⟩
          have n95 : (k == 95) = false := by simpa using e95
          by_cases e46 : k = 46
          · subst e46
            have H := key true (decide_eq_true (by omega))
            clear key
            go_enter Tryz.func136, Tryz.ntmps136
            go_wp2
            go_ret
            exact ⟨by rw [H.out]; rfl, rfl⟩
          have n46 : (k == 46) = false := by simpa using e46
          by_cases e47 : k = 47
          · subst e47
            have H := key true (decide_eq_true (by omega))
            clear key
            go_enter Tryz.func136, Tryz.ntmps136
            go_wp2
            go_ret
            exact ⟨by rw [H.out]; rfl, rfl⟩
          have n47 : (k == 47) = false := by simpa using e47
          have H := key false (decide_eq_false (by omega))
          clear key
          go_enter Tryz.func136, Tryz.ntmps136
          go_wp2
          go_ret
          exact ⟨by rw [H.out]; rfl, rfl⟩
  · by_cases a65 : 65 ≤ k
    · by_cases b90 : k ≤ 90
      · have H := key true (decide_eq_true (by omega))
        clear key
        go_enter Tryz.func136, Tryz.ntmps136
        go_wp2
        go_ret
        exact ⟨by rw [H.out]; rfl, rfl⟩
      · by_cases a48 : 48 ≤ k
        · by_cases b57 : k ≤ 57
          · have H := key true (decide_eq_true (by omega))
            clear key
            go_enter Tryz.func136, Tryz.ntmps136
            go_wp2
            go_ret
            exact ⟨by rw [H.out]; rfl, rfl⟩
          · by_cases e45 : k = 45
            · subst e45
              have H := key true (decide_eq_true (by omega))
              clear key
              go_enter Tryz.func136, Tryz.ntmps136
              go_wp2
              go_ret
              exact ⟨by rw [H.out]; rfl, rfl⟩
            have n45 : (k == 45) = false := by simpa using e45
            by_cases e95 : k = 95
            · subst e95
              have H := key true (decide_eq_true (by omega))
              clear key
              go_enter Tryz.func136, Tryz.ntmps136
              go_wp2
              go_ret
              exact ⟨by rw [H.out]; rfl, rfl⟩
            have n95 : (k == 95) = false := by simpa using e95
            by_cases e46 : k = 46
            · subst e46
              have H := key true (decide_eq_true (by omega))
              clear key
              go_enter Tryz.func136, Tryz.ntmps136
              go_wp2
              go_ret
              exact ⟨by rw [H.out]; rfl, rfl⟩
            have n46 : (k == 46) = false := by simpa using e46
            by_cases e47 : k = 47
            · subst e47
              have H := key true (decide_eq_true (by omega))
              clear key
              go_enter Tryz.func136, Tryz.ntmps136
              go_wp2
              go_ret
              exact ⟨by rw [H.out]; rfl, rfl⟩
            have n47 : (k == 47) = false := by simpa using e47
            have H := key false (decide_eq_false (by omega))
            clear key
            go_enter Tryz.func136, Tryz.ntmps136
            go_wp2
            go_ret
            exact ⟨by rw [H.out]; rfl, rfl⟩
        · by_cases e45 : k = 45
          · subst e45
            have H := key true (decide_eq_true (by omega))
            clear key
            go_enter Tryz.func136, Tryz.ntmps136
            go_wp2
            go_ret
            exact ⟨by rw [H.out]; rfl, rfl⟩
          have n45 : (k == 45) = false := by simpa using e45
          by_cases e95 : k = 95
          · subst e95
            have H := key true (decide_eq_true (by omega))
            clear key
            go_enter Tryz.func136, Tryz.ntmps136
            go_wp2
            go_ret
            exact ⟨by rw [H.out]; rfl, rfl⟩
          have n95 : (k == 95) = false := by simpa using e95
          by_cases e46 : k = 46
          · subst e46
            have H := key true (decide_eq_true (by omega))
            clear key
            go_enter Tryz.func136, Tryz.ntmps136
            go_wp2
            go_ret
            exact ⟨by rw [H.out]; rfl, rfl⟩
          have n46 : (k == 46) = false := by simpa using e46
          by_cases e47 : k = 47
          · subst e47
            have H := key true (decide_eq_true (by omega))
            clear key
            go_enter Tryz.func136, Tryz.ntmps136
            go_wp2
            go_ret
            exact ⟨by rw [H.out]; rfl, rfl⟩
          have n47 : (k == 47) = false := by simpa using e47
          have H := key false (decide_eq_false (by omega))
          clear key
          go_enter Tryz.func136, Tryz.ntmps136
          go_wp2
          go_ret
          exact ⟨by rw [H.out]; rfl, rfl⟩
    · by_cases a48 : 48 ≤ k
      · by_cases b57 : k ≤ 57
        · have H := key true (decide_eq_true (by omega))
          clear key
          go_enter Tryz.func136, Tryz.ntmps136
          go_wp2
          go_ret
          exact ⟨by rw [H.out]; rfl, rfl⟩
        · by_cases e45 : k = 45
          · subst e45
            have H := key true (decide_eq_true (by omega))
            clear key
            go_enter Tryz.func136, Tryz.ntmps136
            go_wp2
            go_ret
            exact ⟨by rw [H.out]; rfl, rfl⟩
          have n45 : (k == 45) = false := by simpa using e45
          by_cases e95 : k = 95
          · subst e95
            have H := key true (decide_eq_true (by omega))
            clear key
            go_enter Tryz.func136, Tryz.ntmps136
            go_wp2
            go_ret
            exact ⟨by rw [H.out]; rfl, rfl⟩
          have n95 : (k == 95) = false := by simpa using e95
          by_cases e46 : k = 46
          · subst e46
            have H := key true (decide_eq_true (by omega))
            clear key
            go_enter Tryz.func136, Tryz.ntmps136
            go_wp2
            go_ret
            exact ⟨by rw [H.out]; rfl, rfl⟩
          have n46 : (k == 46) = false := by simpa using e46
          by_cases e47 : k = 47
          · subst e47
            have H := key true (decide_eq_true (by omega))
            clear key
            go_enter Tryz.func136, Tryz.ntmps136
            go_wp2
            go_ret
            exact ⟨by rw [H.out]; rfl, rfl⟩
          have n47 : (k == 47) = false := by simpa using e47
          have H := key false (decide_eq_false (by omega))
          clear key
          go_enter Tryz.func136, Tryz.ntmps136
          go_wp2
          go_ret
          exact ⟨by rw [H.out]; rfl, rfl⟩
      · by_cases e45 : k = 45
        · subst e45
          have H := key true (decide_eq_true (by omega))
          clear key
          go_enter Tryz.func136, Tryz.ntmps136
          go_wp2
          go_ret
          exact ⟨by rw [H.out]; rfl, rfl⟩
        have n45 : (k == 45) = false := by simpa using e45
        by_cases e95 : k = 95
        · subst e95
          have H := key true (decide_eq_true (by omega))
          clear key
          go_enter Tryz.func136, Tryz.ntmps136
          go_wp2
          go_ret
          exact ⟨by rw [H.out]; rfl, rfl⟩
        have n95 : (k == 95) = false := by simpa using e95
        by_cases e46 : k = 46
        · subst e46
          have H := key true (decide_eq_true (by omega))
          clear key
          go_enter Tryz.func136, Tryz.ntmps136
          go_wp2
          go_ret
          exact ⟨by rw [H.out]; rfl, rfl⟩
        have n46 : (k == 46) = false := by simpa using e46
        by_cases e47 : k = 47
        · subst e47
          have H := key true (decide_eq_true (by omega))
          clear key
          go_enter Tryz.func136, Tryz.ntmps136
          go_wp2
          go_ret
          exact ⟨by rw [H.out]; rfl, rfl⟩
        have n47 : (k == 47) = false := by simpa using e47
        have H := key false (decide_eq_false (by omega))
        clear key
        go_enter Tryz.func136, Tryz.ntmps136
        go_wp2
        go_ret
        exact ⟨by rw [H.out]; rfl, rfl⟩

theorem rbare_any (b : UInt8) (w : World) : Calls Tryz.prog 136 #[.int .u8 (b.toNat : Int)] w fun e w' => e = .returned (.bool (bareN b.toNat)) ∧ w' = w := by
  rw [← bareI_nat]
  exact rbare_int _ _

set_option maxRecDepth 1000000 in
theorem prn_int (k : Int) (w : World) : Calls Tryz.prog 206 #[.int .u8 k] w fun e w' => e = .returned (.bool (prnI k)) ∧ w' = w := by
  have key : ∀ b, prnI k = b → Hid (prnI k = b) := fun b h => h
  by_cases a32 : 32 ≤ k
  · by_cases b126 : k ≤ 126
    · have H := key true (decide_eq_true (by omega))
      clear key
      go_enter Tryz.func206, Tryz.ntmps206
      go_wp2
      go_ret
      exact ⟨by rw [H.out]; rfl, rfl⟩
    · have H := key false (decide_eq_false (by omega))
      clear key
      go_enter Tryz.func206, Tryz.ntmps206
      go_wp2
      go_ret
      exact ⟨by rw [H.out]; rfl, rfl⟩
  · have H := key false (decide_eq_false (by omega))
    clear key
    go_enter Tryz.func206, Tryz.ntmps206
    go_wp2
    go_ret
    exact ⟨by rw [H.out]; rfl, rfl⟩

theorem prn_any (b : UInt8) (w : World) : Calls Tryz.prog 206 #[.int .u8 (b.toNat : Int)] w fun e w' => e = .returned (.bool (prnN b.toNat)) ∧ w' = w := by
  rw [← prnI_nat]
  exact prn_int _ _
end Go.Proofs.YtdhkdniddjnigaaGreatDoor
