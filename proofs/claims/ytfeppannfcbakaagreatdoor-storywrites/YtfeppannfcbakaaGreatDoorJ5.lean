import Derived.Test.YtfeppannfcbakaaGreatDoorJ1
import Derived.Test.YtfeppannfcbakaaGreatDoorJ4
import Derived.Test.YtfeppannfcbakaaGreatDoorSLay
import Derived.Lib.AtoiAllCases
import Derived.Test.YtfeppannfcbakaaGreatDoorJ3
namespace Go.Proofs.YtfeppannfcbakaaGreatDoor
open Go.RowKit
set_option linter.unusedVariables false

/-- What the library's variables hold. -/
structure Vars (w : World) : Prop where
  es : ∃ tp p, w.var? Tryz.prog "strconv.ErrSyntax" = some #[.iface tp p]
  er : ∃ tp p, w.var? Tryz.prog "strconv.ErrRange" = some #[.iface tp p]
  pw : Lib.TabIs Tryz.prog w "internal/strconv.uint64pow10" .u64 Lib.pow10Tab
theorem var_later {w w' : World} (hb : Below w.heap.size w w') {n : String} {cs : Array Value} (h : w.var? Tryz.prog n = some cs) : w'.var? Tryz.prog n = some cs := by
  unfold World.var? at h ⊢
  cases hg : Tryz.prog.globalNamed n with
  | none => rw [hg] at h; simp at h
  | some g =>
    rw [hg] at h
    simp only [Option.bind_some] at h ⊢
    by_cases hlt : g < w.heap.size
    · rw [hb.block g hlt]; exact h
    · rw [Array.getElem?_eq_none (by omega)] at h; simp at h
theorem Vars.later {w w' : World} (h : Vars w) (hb : Below w.heap.size w w') : Vars w' := by
  obtain ⟨⟨t1, p1, h1⟩, ⟨t2, p2, h2⟩, h3⟩ := h
  exact ⟨⟨t1, p1, var_later hb h1⟩, ⟨t2, p2, var_later hb h2⟩, var_later hb h3⟩

theorem grow_bel (w : World) (k : Nat) (os : Array Obj) : Below w.heap.size w (Sort.grow (w.drewN k) os) := by
  refine ⟨rfl, rfl, rfl, by simp [Sort.grow], fun j hj => ?_⟩
  show (w.heap ++ os)[j]? = _
  rw [Array.getElem?_append_left hj]

theorem Itoa_any {v : Int} {w : World} (V : Vars w) (h0 : 0 ≤ v) (h1 : v ≤ 9223372036854775807) : Calls Tryz.prog 46 #[.int .i64 v] w fun e w' => e = .returned (.string ⟨(Lib.itoa v).toArray⟩) ∧ Below w.heap.size w w' := by
  refine Calls.mono (Any.strconv_Itoa Tryz.laysM171 v (by omega) h1 w V.pw) ?_
  rintro e w' ⟨he, k, os, rfl⟩
  exact ⟨he, grow_bel w k os⟩
theorem Atoi_ok {l : List UInt8} {v : Int} {w : World} (hl : l.length ≤ 140737488355328) (h : Lib.atoiAll l = .ok v) : Calls Tryz.prog 117 #[.string ⟨l.toArray⟩] w fun e w' => e = .returned (.tuple #[.int .i64 v, .nilIface]) ∧ Below w.heap.size w w' := by
  have hz : (⟨l.toArray⟩ : ByteArray).size = l.length := by simp [ByteArray.size]
  refine Calls.mono (Any.strconv_Atoi_ok Tryz.laysC172 ⟨l.toArray⟩ (by rw [hz]; omega) v (by simpa using h) w) ?_
  rintro e w' ⟨he, rfl | ⟨t, rfl⟩⟩
  · exact ⟨he, Below.refl _ _⟩
  · exact ⟨he, Lib.bytesWorld_below _ _ _⟩
theorem Atoi_bad {l : List UInt8} {w : World} (V : Vars w) (hl : l.length ≤ 140737488355328) (h : ∀ v, Lib.atoiAll l ≠ .ok v) : Calls Tryz.prog 117 #[.string ⟨l.toArray⟩] w fun e w' => ∃ z t N, e = .returned (.tuple #[.int .i64 z, .iface t (.pointer (some ⟨N, 0, none⟩))]) ∧ Below w.heap.size w w' := by
  have hz : (⟨l.toArray⟩ : ByteArray).size = l.length := by simp [ByteArray.size]
  cases hA : Lib.atoiAll l with
  | ok v => exact absurd hA (h v)
  | «syntax» =>
    obtain ⟨tp, p, hv⟩ := V.es
    refine Calls.mono (Any.strconv_Atoi_syntax_var Tryz.laysC172 ⟨l.toArray⟩ (by rw [hz]; omega) (by simpa using hA) tp p w hv) ?_
    rintro e w' ⟨N, he, _, _, hb⟩
    exact ⟨_, _, N, he, hb⟩
  | range =>
    obtain ⟨tp, p, hv⟩ := V.er
    refine Calls.mono (Any.strconv_Atoi_range_var Tryz.laysC172 ⟨l.toArray⟩ (by rw [hz]; omega) (by simpa using hA) tp p w hv) ?_
    rintro e w' ⟨N, he, _, _, hb⟩
    exact ⟨_, _, N, he, hb⟩

/-- What Number answers. -/
def numA (l : List UInt8) : Value := .tuple #[.int .i64 (((numW l).getD 0 : Nat) : Int), .bool (numW l).isSome]

set_option maxHeartbeats 1000000 in
set_option maxRecDepth 1000000 in
theorem Number_any {l : List UInt8} {w : World} (V : Vars w) (hl : l.length ≤ 140737488355328) :
    Calls Tryz.prog 81 #[.string ⟨l.toArray⟩] w fun e w' => e = .returned (numA l) ∧ Below w.heap.size w w' := by
  cases hN : numW l with
  | some v =>
    have e1 : numA l = .tuple #[.int .i64 (v : Int), .bool true] := by unfold numA; rw [hN]; rfl
    rw [e1]
    have hle := numW_le hN
    have C := hid (Atoi_ok (w := w) hl (atoi_of hN))
    have IT : Hid (∀ W, Below w.heap.size w W → Calls Tryz.prog 46 #[.int .i64 (v : Int)] W fun e w' => e = .returned (.string ⟨l.toArray⟩) ∧ Below W.heap.size W w') := hid (fun W hb => by
      have := Itoa_any (v := (v : Int)) (V.later hb) (by omega) (by omega)
      have e2 : Lib.itoa (v : Int) = l := by
        unfold Lib.itoa
        rw [if_neg (by omega), Int.toNat_natCast]
        exact (numW_spelt hN).symm
      rw [e2] at this
      exact this)
    have ne : ((⟨l.toArray⟩ : ByteArray).toList != (⟨l.toArray⟩ : ByteArray).toList) = false := by simp
    have hv0 : ¬ (v : Int) < 0 := by omega
    clear e1 hN V hl
    generalize ByteArray.mk l.toArray = L at *
    go_enter Tryz.func81, Tryz.ntmps81
    go_wp2_with (go_at_call 117; refine C.out.mono ?_; rintro e w1 ⟨rfl, B1⟩; have Q := hid (IT.out w1 B1); have BB := hid B1; clear B1; refine Hid.out ?_)
    refine hid ?_
    go_wp2_with (go_at_call 46; refine Q.out.mono ?_; rintro e w2 ⟨rfl, B2⟩; have B3 := hid (BB.out.trans (B2.mono BB.out.size)); clear B2)
    go_ret2
    exact ⟨rfl, B3.out⟩
  | none =>
    have e1 : numA l = .tuple #[.int .i64 0, .bool false] := by unfold numA; rw [hN]; rfl
    rw [e1]
    by_cases hA : ∃ v, Lib.atoiAll l = .ok v
    · obtain ⟨v, hA⟩ := hA
      have hb := Lib.atoiAll_bounds hA
      have C := hid (Atoi_ok (w := w) hl hA)
      by_cases hv0 : v < 0
      · clear hb e1 hN V hl hA
        generalize ByteArray.mk l.toArray = L at *
        go_enter Tryz.func81, Tryz.ntmps81
        go_wp2_with (go_at_call 117; refine C.out.mono ?_; rintro e w1 ⟨rfl, B1⟩; have BB := hid B1; clear B1)
        go_ret2
        exact ⟨rfl, BB.out⟩
      · have hno := numW_none hN hb.2 (by omega)
        have IT : Hid (∀ W, Below w.heap.size w W → Calls Tryz.prog 46 #[.int .i64 v] W fun e w' => e = .returned (.string ⟨(Lib.itoa v).toArray⟩) ∧ Below W.heap.size W w') := hid (fun W hw => Itoa_any (V.later hw) (by omega) hb.2)
        have ne : ((⟨(Lib.itoa v).toArray⟩ : ByteArray).toList == (⟨l.toArray⟩ : ByteArray).toList) = false := by
          rw [ba_ne]; exact decide_eq_false hno
        clear hb e1 hN V hl hA hno
        generalize ByteArray.mk (Lib.itoa v).toArray = M at *
        generalize ByteArray.mk l.toArray = L at *
        have ne' : (M.toList != L.toList) = true := by simp only [bne, ne]; rfl
        go_enter Tryz.func81, Tryz.ntmps81
        go_wp2_with (go_at_call 117; refine C.out.mono ?_; rintro e w1 ⟨rfl, B1⟩; have Q := hid (IT.out w1 B1); have BB := hid B1; clear B1; refine Hid.out ?_)
        refine hid ?_
        go_wp2_with (go_at_call 46; refine Q.out.mono ?_; rintro e w2 ⟨rfl, B2⟩; have B3 := hid (BB.out.trans (B2.mono BB.out.size)); clear B2)
        go_ret2
        exact ⟨rfl, B3.out⟩
    · have C := hid (Atoi_bad V hl (fun v e => hA ⟨v, e⟩))
      clear e1 hN V hl hA
      generalize ByteArray.mk l.toArray = L at *
      go_enter Tryz.func81, Tryz.ntmps81
      go_wp2_with (go_at_call 117; refine C.out.mono ?_; rintro e w1 ⟨z, t, N, rfl, B1⟩; have BB := hid B1; clear B1)
      go_ret2
      exact ⟨rfl, BB.out⟩
end Go.Proofs.YtfeppannfcbakaaGreatDoor

namespace Go.Proofs.YtfeppannfcbakaaGreatDoor
open Go.RowKit
set_option linter.unusedVariables false

theorem reads_one {w : World} (b : UInt8) : Reads (w.alloc (.cells #[.int .u8 (b.toNat : Int)] 5)) (.slice (some ⟨w.heap.size, 0, none⟩) 1 1) [b] := by
  refine ⟨some ⟨w.heap.size, 0, none⟩, 1, rfl, by simp, Or.inr ⟨w.heap.size, 0, rfl, by simp, fun j u hu => ?_⟩⟩
  match j with
  | 0 =>
    simp only [cellsB, List.map_cons, List.map_nil, List.getElem?_cons_zero, Option.some.injEq] at hu
    subst hu
    rw [cell_at (heap_alloc_new w _)]; rfl
  | j + 1 => simp [cellsB] at hu
theorem conv_one {w : World} (b : UInt8) : (convert 32 9 (.slice (some ⟨w.heap.size, 0, none⟩) 1 1)).run Tryz.prog (w.alloc (.cells #[.int .u8 (b.toNat : Int)] 5)) = .ok (.string ⟨#[b]⟩) (w.alloc (.cells #[.int .u8 (b.toNat : Int)] 5)) := by
  exact conv_string (reads_one b)

theorem conv_kept {w w' : World} {b : UInt8} (hb : Below (w.alloc (.cells #[.int .u8 (b.toNat : Int)] 5)).heap.size (w.alloc (.cells #[.int .u8 (b.toNat : Int)] 5)) w') : (convert 32 9 (.slice (some ⟨w.heap.size, 0, none⟩) 1 1)).run Tryz.prog w' = .ok (.string ⟨#[b]⟩) w' := by
  have : Reads (w.alloc (.cells #[.int .u8 (b.toNat : Int)] 5)) (.slice (some ⟨w.heap.size, 0, none⟩) 1 1) [b] := reads_one b
  exact conv_string (this.below hb)

set_option maxHeartbeats 1600000 in
set_option maxRecDepth 1000000 in
theorem Digits_any : ∀ (n : Nat) (w : World), n ≤ 9223372036854775807 → Calls Tryz.prog 43 #[.int .i64 (n : Int)] w fun e w' => e = .returned (.string ⟨(Lib.decDigits n).toArray⟩) ∧ Below w.heap.size w w' := by
  intro n
  induction n using Nat.strongRecOn with
  | _ n ih =>
    intro w hn
    by_cases h10 : n < 10
    · have e1 : Lib.decDigits n = [UInt8.ofNat (48 + n)] := by rw [Lib.decDigits, dif_pos h10]
      rw [e1]
      have cv := conv_one (w := w) (UInt8.ofNat (48 + n))
      rw [toNat_dig h10, show ((48 + n : Nat) : Int) = 48 + (n : Int) from by omega] at cv
      have h10' : (n : Int) < 10 := by omega
      have hw : IntKind.u8.wrap (48 + (n : Int)) = 48 + n := by
        have : ∀ x : Fin 10, IntKind.u8.wrap (48 + (x.val : Int)) = 48 + x.val := by decide +kernel
        exact this ⟨n, h10⟩
      have bel := hid (ba w (.cells #[.int .u8 (48 + (n : Int))] 5))
      clear ih e1
      generalize ByteArray.mk #[UInt8.ofNat (48 + n)] = X at *
      go_enter Tryz.func43, Tryz.ntmps43
      go_wp2
      go_ret
      exact ⟨rfl, bel.out⟩
    · have e1 : Lib.decDigits n = Lib.decDigits (n / 10) ++ [UInt8.ofNat (48 + n % 10)] := by rw [Lib.decDigits, dif_neg h10]
      rw [e1]
      have C := hid (fun W => ih (n / 10) (by omega) W (by omega))
      have hm : n % 10 < 10 := by omega
      have hrem : (n : Int) % 10 = ((n % 10 : Nat) : Int) := by omega
      have htm : (n : Int).tmod 10 = ((n % 10 : Nat) : Int) := by rw [Int.tmod_eq_emod_of_nonneg (by omega)]; omega
      have hdiv : (n : Int) / 10 = ((n / 10 : Nat) : Int) := by omega
      have h10' : ¬ (n : Int) < 10 := by omega
      have eX : Hid (∀ a b : List UInt8, (⟨(a ++ b).toArray⟩ : ByteArray) = ⟨a.toArray⟩ ++ ⟨b.toArray⟩) := hid (fun a b => by
        apply ByteArray.ext
        simp)
      have hqn : n / 10 ≤ n := by omega
      clear ih e1
      generalize n % 10 = r at *
      generalize n / 10 = q at *
      rw [eX.out]
      have cv := fun W : World => conv_one (w := W) (UInt8.ofNat (48 + r))
      have hk : Hid (∀ W W' : World, Below (W.alloc (.cells #[.int .u8 ((UInt8.ofNat (48 + r)).toNat : Int)] 5)).heap.size (W.alloc (.cells #[.int .u8 ((UInt8.ofNat (48 + r)).toNat : Int)] 5)) W' → (convert 32 9 (.slice (some ⟨W.heap.size, 0, none⟩) 1 1)).run Tryz.prog W' = .ok (.string ⟨#[UInt8.ofNat (48 + r)]⟩) W') := hid (fun W W' hb => conv_kept hb)
      rw [toNat_dig hm, show ((48 + r : Nat) : Int) = 48 + (r : Int) from by omega] at cv hk
      have hw : IntKind.u8.wrap (48 + (r : Int)) = 48 + (r : Int) := by
        have : ∀ x : Fin 10, IntKind.u8.wrap (48 + (x.val : Int)) = 48 + x.val := by decide +kernel
        exact this ⟨r, hm⟩
      have wq : IntKind.i64.wrap (q : Int) = q := by rw [IntKind.wrap_i64]; omega
      have wr1 : IntKind.i64.wrap (r : Int) = r := by rw [IntKind.wrap_i64]; omega
      have wr2 : IntKind.i64.wrap (48 + (r : Int)) = 48 + (r : Int) := by rw [IntKind.wrap_i64]; omega
      have e3 : (⟨[UInt8.ofNat (48 + r)].toArray⟩ : ByteArray) = ⟨#[UInt8.ofNat (48 + r)]⟩ := rfl
      rw [e3]
      have hsum : ¬ 9223372036854775807 < (⟨(Lib.decDigits q).toArray⟩ : ByteArray).size + (⟨#[UInt8.ofNat (48 + r)]⟩ : ByteArray).size := by
        have := digits_short (v := q) (by omega)
        simp [ByteArray.size]
        omega
      generalize ByteArray.mk #[UInt8.ofNat (48 + r)] = X at *
      generalize ByteArray.mk (Lib.decDigits q).toArray = Y at *
      clear eX e3
      have bel := hid (fun W : World => ba W (.cells #[.int .u8 (48 + (r : Int))] 5))
      have hk2 : Hid (∀ W' : World, Below (w.alloc (.cells #[.int .u8 (48 + (r : Int))] 5)).drew.heap.size (w.alloc (.cells #[.int .u8 (48 + (r : Int))] 5)).drew W' → (convert 32 9 (.slice (some ⟨w.heap.size, 0, none⟩) 1 1)).run Tryz.prog W' = .ok (.string X) W') := hid (fun W' hb => hk.out w.drew W' hb)
      have cvw : (convert 32 9 (.slice (some ⟨w.heap.size, 0, none⟩) 1 1)).run Tryz.prog (w.alloc (.cells #[.int .u8 (48 + (r : Int))] 5)).drew = .ok (.string X) (w.alloc (.cells #[.int .u8 (48 + (r : Int))] 5)).drew := cv w.drew
      have b0 := hid (bd w)
      go_enter Tryz.func43, Tryz.ntmps43
      go_wp2_with fail
      go_region_law (go_simp; go_at_call 43; refine (C.out _).mono ?_; rintro e w5 ⟨rfl, B5⟩; (try have cv2 := hk2.out _ B5); have BB := hid B5; clear B5)
      all_goals (go_wp2; go_ret; refine ⟨rfl, ?_⟩; first | exact b0.out.trans (BB.out.trans ((bel.out _).mono BB.out.size)) | exact b0.out.trans ((bel.out w.drew).trans (BB.out.mono (bel.out w.drew).size)))
end Go.Proofs.YtfeppannfcbakaaGreatDoor

namespace Go.Proofs.YtfeppannfcbakaaGreatDoor
open Go.RowKit
set_option linter.unusedVariables false

/-- How a reader's fields say where it stands. -/
def Fits (s : St) (st : Int) (wd : List UInt8) (op es cd : Int) : Prop :=
  match s with
  | .ahead => st = 0
  | .bare w => st = 1 ∧ wd = w
  | .closed => st = 2
  | .quote o w => st = 3 ∧ wd = w ∧ op = o
  | .esc o w e => st = 4 ∧ wd = w ∧ op = o ∧ es = e
  | .high o w e => st = 5 ∧ wd = w ∧ op = o ∧ es = e
  | .low o w e d => st = 6 ∧ wd = w ∧ op = o ∧ es = e ∧ cd = d * 16 ∧ d < 16
/-- A reader that stands there. -/
def RdAt (B : Nat) (s : St) (ws : Ws) (cs : List Comp) (w : World) : Prop :=
  ∃ st wv dv op es cd wd, Fits s st wd op es cd ∧ All (rdL B st wv dv op es cd ws wd ++ cs) w
theorem RdAt.drop {B : Nat} {s : St} {ws : Ws} {cs : List Comp} {w : World} (h : RdAt B s ws cs w) : All cs w := by
  obtain ⟨st, wv, dv, op, es, cd, wd, hf, hA⟩ := h
  exact hA.tail.tail.tail
theorem RdAt.later {B : Nat} {s : St} {ws : Ws} {cs : List Comp} {w w' : World} (h : RdAt B s ws cs w) (hb : Below w.heap.size w w') : RdAt B s ws cs w' := by
  obtain ⟨st, wv, dv, op, es, cd, wd, hf, hA⟩ := h
  exact ⟨st, wv, dv, op, es, cd, wd, hf, hA.later hb⟩
/-- What a step within quotes answers. -/
def StepPost (B : Nat) (cs : List Comp) (o : Out) (e : Ending) (w' : World) : Prop :=
  match o with
  | .go s ws => e = .returned (.int .i64 (-1)) ∧ RdAt B s ws cs w'
  | .bad j => e = .returned (.int .i64 (j : Int)) ∧ All cs w'

set_option maxHeartbeats 800000 in
set_option maxRecDepth 1000000 in
theorem close_bare {B : Nat} {st : Int} {wv dv : Value} {op es cd : Int} {ws : Ws} {wd : List UInt8} {cs : List Comp} {w : World} (h : All (rdL B st wv dv op es cd ws wd ++ cs) w) (hl : wd.length ≤ 140737488355328) (hb : isBareW wd = true) :
    Calls Tryz.prog 128 #[ptr B] w fun e w' => e = .returned (.int .i64 op) ∧ w' = w := by
  obtain ⟨⟨s0, s1, s2, s3, s4, s5⟩, hf⟩ := rd_cells h
  obtain ⟨ao0, c0, rfl⟩ := owns_form (h.tail.tail.1.2.1 : w.ownsRow 0 5 1 dv _ _)
  have cv := conv_string (reads_own h.tail.tail)
  have C := hid (isBareWord_any (w := w) hl)
  clear h hf
  generalize ByteArray.mk wd.toArray = X at *
  generalize (cellsB wd).length = n at *
  go_enter Tryz.func128, Tryz.ntmps128
  go_wp2_with (go_at_call 91; refine C.out.mono ?_; rintro e w1 ⟨rfl, rfl⟩; rw [hb])
  go_ret
  exact ⟨rfl, rfl⟩

set_option maxHeartbeats 800000 in
set_option maxRecDepth 1000000 in
theorem close_word {B : Nat} {st : Int} {wv dv : Value} {op es cd : Int} {ws : Ws} {wd : List UInt8} {cs : List Comp} {w : World} (h : All (rdL B st wv dv op es cd ws wd ++ cs) w) (hl : wd.length ≤ 140737488355328) (hl2 : ws.length + 1 ≤ 1000000000000) (hb : isBareW wd = false) :
    Calls Tryz.prog 128 #[ptr B] w fun e w' => e = .returned (.int .i64 (-1)) ∧ ∃ wv' dv', All (rdL B 2 wv' dv' op es cd (ws ++ [wd]) wd ++ cs) w' := by
  obtain ⟨⟨s0, s1, s2, s3, s4, s5⟩, hf⟩ := rd_cells h
  obtain ⟨ao0, c0, rfl⟩ := owns_form (h.tail.tail.1.2.1 : w.ownsRow 0 5 1 dv _ _)
  have cv := conv_string (reads_own h.tail.tail)
  have C := hid (isBareWord_any (w := w) hl)
  have HE := hid (end_any h hl2)
  clear h hf
  generalize ByteArray.mk wd.toArray = X at *
  generalize hn : (cellsB wd).length = n at *
  go_enter Tryz.func128, Tryz.ntmps128
  go_wp2_with (first | (go_at_call 91; refine C.out.mono ?_; rintro e w1 ⟨rfl, rfl⟩; rw [hb]) | (go_at_call 68; refine HE.out.mono ?_; rintro e w1 ⟨rfl, wv', A1⟩; clear s0 s1 s2 s3 s4 s5; have hc := rd_cells A1; obtain ⟨⟨s0, s1, s2, s3, s4, s5⟩, hf⟩ := hc; have f0 := hf 0; have A2 := hid (A1.setBlk 0 (.int .i64 2)); clear A1 hf))
  go_ret
  exact ⟨rfl, _, _, A2.out⟩

set_option maxHeartbeats 800000 in
set_option maxRecDepth 1000000 in
theorem plain_any {B : Nat} {o : Nat} {x : List UInt8} {ws : Ws} {k : Nat} {b : UInt8} {cs : List Comp} {w : World} (h : RdAt B (.quote o x) ws cs w) (hl : x.length + 1 ≤ 140737488355328) (hl2 : ws.length + 1 ≤ 1000000000000) :
    Calls Tryz.prog 102 #[ptr B, .int .i64 (k : Int), .int .u8 (b.toNat : Int)] w (StepPost B cs (stepW (.quote o x) ws k b)) := by
  obtain ⟨st, wv, dv, op, es, cd, wd, ⟨rfl, rfl, rfl⟩, A⟩ := h
  by_cases h34 : b.toNat = 34
  · have hi : (b.toNat : Int) = 34 := by omega
    rw [hi]
    cases hw : isBareW wd with
    | true =>
      have e1 : stepW (.quote o wd) ws k b = .bad o := by simp [stepW, h34, hw]
      have C := hid (close_bare A (by omega) hw)
      have D := hid A.tail.tail.tail
      rw [e1]
      clear e1 hi h34 A hw
      go_enter Tryz.func102, Tryz.ntmps102
      go_wp2_with (go_at_call 128; refine C.out.mono ?_; rintro e w1 ⟨rfl, rfl⟩)
      go_ret
      exact ⟨rfl, D.out⟩
    | false =>
      have e1 : stepW (.quote o wd) ws k b = .go .closed (ws ++ [wd]) := by simp [stepW, h34, hw]
      have C := hid (close_word A (by omega) hl2 hw)
      rw [e1]
      clear e1 hi h34 A hw
      go_enter Tryz.func102, Tryz.ntmps102
      go_wp2_with (go_at_call 128; refine C.out.mono ?_; rintro e w1 ⟨rfl, wv', dv', A1⟩; have A2 := hid A1; clear A1)
      go_ret
      exact ⟨rfl, _, _, _, _, _, _, _, rfl, A2.out⟩
  · have n34 : ((b.toNat : Int) == 34) = false := by simp; omega
    by_cases h92 : b.toNat = 92
    · have e1 : stepW (.quote o wd) ws k b = .go (.esc o wd k) ws := by simp [stepW, h92]
      have hi : (b.toNat : Int) = 92 := by omega
      rw [e1, hi]
      obtain ⟨⟨s0, s1, s2, s3, s4, s5⟩, hf⟩ := rd_cells A
      have f0 := hf 0
      have f4 := hf 4
      have A2 := hid ((A.setBlk 0 (.int .i64 4)).setBlk 4 (.int .i64 k))
      clear e1 hi h92 n34 h34 A hf
      go_enter Tryz.func102, Tryz.ntmps102
      go_wp2
      go_ret
      exact ⟨rfl, _, _, _, _, _, _, _, ⟨rfl, rfl, rfl, rfl⟩, A2.out⟩
    · have n92 : ((b.toNat : Int) == 92) = false := by simp; omega
      have P := hid (prn_any b w)
      cases hp : prnN b.toNat with
      | false =>
        have e1 : stepW (.quote o wd) ws k b = .bad k := by simp [stepW, h34, h92, hp]
        rw [e1]
        have D := hid A.tail.tail.tail
        clear e1 A h34 h92
        generalize (b.toNat : Int) = bi at *
        go_enter Tryz.func102, Tryz.ntmps102
        go_wp2_with (go_at_call 123; refine P.out.mono ?_; rintro e w1 ⟨rfl, rfl⟩; rw [hp])
        go_ret
        exact ⟨rfl, D.out⟩
      | true =>
        have e1 : stepW (.quote o wd) ws k b = .go (.quote o (wd ++ [b])) ws := by simp [stepW, h34, h92, hp]
        rw [e1]
        have T := hid (take_any (b := b) A hl)
        clear e1 A h34 h92
        generalize (b.toNat : Int) = bi at *
        go_enter Tryz.func102, Tryz.ntmps102
        go_wp2_with (first | (go_at_call 123; refine P.out.mono ?_; rintro e w1 ⟨rfl, rfl⟩; rw [hp]) | (go_at_call 129; refine T.out.mono ?_; rintro e w1 ⟨rfl, dv', A1⟩; have A2 := hid A1; clear A1))
        go_ret
        exact ⟨rfl, _, _, _, _, _, _, _, ⟨rfl, rfl, rfl⟩, A2.out⟩

set_option maxHeartbeats 800000 in
set_option maxRecDepth 1000000 in
theorem escaped_any {B : Nat} {o f : Nat} {x : List UInt8} {ws : Ws} {k : Nat} {b : UInt8} {cs : List Comp} {w : World} (h : RdAt B (.esc o x f) ws cs w) (hl : x.length + 1 ≤ 140737488355328) :
    Calls Tryz.prog 103 #[ptr B, .int .i64 (k : Int), .int .u8 (b.toNat : Int)] w (StepPost B cs (stepW (.esc o x f) ws k b)) := by
  obtain ⟨st, wv, dv, op, es, cd, wd, ⟨rfl, rfl, rfl, rfl⟩, A⟩ := h
  by_cases h120 : b.toNat = 120
  · have e1 : stepW (.esc o wd f) ws k b = .go (.high o wd f) ws := by simp [stepW, h120]
    have hi : (b.toNat : Int) = 120 := by omega
    rw [e1, hi]
    obtain ⟨⟨s0, s1, s2, s3, s4, s5⟩, hf⟩ := rd_cells A
    have f0 := hf 0
    have A2 := hid (A.setBlk 0 (.int .i64 5))
    clear e1 hi h120 A hf
    go_enter Tryz.func103, Tryz.ntmps103
    go_wp2
    go_ret
    exact ⟨rfl, _, _, _, _, _, _, _, ⟨rfl, rfl, rfl, rfl⟩, A2.out⟩
  · have n120 : ((b.toNat : Int) == 120) = false := by simp; omega
    by_cases h34 : b.toNat = 34
    · have e1 : stepW (.esc o wd f) ws k b = .go (.quote o (wd ++ [b])) ws := by simp [stepW, h34]
      have T := hid (take_any (b := b) A hl)
      have hi : (b.toNat : Int) = 34 := by omega
      rw [e1]
      rw [hi] at T ⊢
      clear e1 A h34 h120 n120 hi
      go_enter Tryz.func103, Tryz.ntmps103
      go_wp2_with (go_at_call 129; refine T.out.mono ?_; rintro e w1 ⟨rfl, dv', A1⟩; have A2 := hid A1; clear A1)
      go_ret
      exact ⟨rfl, _, _, _, _, _, _, _, ⟨rfl, rfl, rfl⟩, A2.out⟩
    · have n34 : ((b.toNat : Int) == 34) = false := by simp; omega
      by_cases h92 : b.toNat = 92
      · have e1 : stepW (.esc o wd f) ws k b = .go (.quote o (wd ++ [b])) ws := by simp [stepW, h92]
        have T := hid (take_any (b := b) A hl)
        have hi : (b.toNat : Int) = 92 := by omega
        rw [e1]
        rw [hi] at T ⊢
        clear e1 A h34 h120 n120 hi n34 h92
        go_enter Tryz.func103, Tryz.ntmps103
        go_wp2_with (go_at_call 129; refine T.out.mono ?_; rintro e w1 ⟨rfl, dv', A1⟩; have A2 := hid A1; clear A1)
        go_ret
        exact ⟨rfl, _, _, _, _, _, _, _, ⟨rfl, rfl, rfl⟩, A2.out⟩
      · have n92 : ((b.toNat : Int) == 92) = false := by simp; omega
        have e1 : stepW (.esc o wd f) ws k b = .bad k := by simp [stepW, h34, h92, h120]
        rw [e1]
        have D := hid A.tail.tail.tail
        clear e1 A h34 h92 h120
        generalize (b.toNat : Int) = bi at *
        go_enter Tryz.func103, Tryz.ntmps103
        go_wp2
        go_ret
        exact ⟨rfl, D.out⟩
end Go.Proofs.YtfeppannfcbakaaGreatDoor

namespace Go.Proofs.YtfeppannfcbakaaGreatDoor
open Go.RowKit
set_option linter.unusedVariables false

set_option maxHeartbeats 800000 in
set_option maxRecDepth 1000000 in
theorem digit_high {B : Nat} {o f d : Nat} {x : List UInt8} {ws : Ws} {cs : List Comp} {w : World} (h : RdAt B (.high o x f) ws cs w) (hd : d < 16) :
    Calls Tryz.prog 105 #[ptr B, .int .u8 (d : Int)] w (StepPost B cs (.go (.low o x f d) ws)) := by
  obtain ⟨st, wv, dv, op, es, cd, wd, ⟨rfl, rfl, rfl, rfl⟩, A⟩ := h
  obtain ⟨⟨s0, s1, s2, s3, s4, s5⟩, hf⟩ := rd_cells A
  have f0 := hf 0
  have f5 := hf 5
  have A2 := hid ((A.setBlk 0 (.int .i64 6)).setBlk 5 (.int .u8 ((d : Int) * 16)))
  clear A hf
  go_enter Tryz.func105, Tryz.ntmps105
  go_wp2
  go_ret
  exact ⟨rfl, _, _, _, _, _, _, _, ⟨rfl, rfl, rfl, rfl, rfl, hd⟩, A2.out⟩

theorem or_hex (g d : Nat) (hg : g < 16) (hd : d < 16) : bits BinOp.or IntKind.u8 ((g : Int) * 16) (d : Int) = ((16 * g + d : Nat) : Int) := by
  have h : ∀ a b : Fin 16, bits BinOp.or IntKind.u8 ((a.val : Int) * 16) (b.val : Int) = ((16 * a.val + b.val : Nat) : Int) := by decide +kernel
  exact h ⟨g, hg⟩ ⟨d, hd⟩

set_option maxHeartbeats 800000 in
set_option maxRecDepth 1000000 in
theorem digit_low {B : Nat} {o f g d : Nat} {x : List UInt8} {ws : Ws} {cs : List Comp} {w : World} (h : RdAt B (.low o x f g) ws cs w) (hl : x.length + 1 ≤ 140737488355328) (hd : d < 16) :
    Calls Tryz.prog 105 #[ptr B, .int .u8 (d : Int)] w (StepPost B cs (if prnN (16 * g + d) = true then .bad f else .go (.quote o (x ++ [UInt8.ofNat (16 * g + d)])) ws)) := by
  obtain ⟨st, wv, dv, op, es, cd, wd, ⟨rfl, rfl, rfl, rfl, rfl, hg⟩, A⟩ := h
  obtain ⟨⟨s0, s1, s2, s3, s4, s5⟩, hf⟩ := rd_cells A
  have T := hid (take_any (b := UInt8.ofNat (16 * g + d)) A hl)
  have eN : (UInt8.ofNat (16 * g + d)).toNat = 16 * g + d := by simp; omega
  rw [eN] at T
  have P : Hid (Calls Tryz.prog 123 #[.int .u8 ((16 * g + d : Nat) : Int)] w fun e w' => e = .returned (.bool (prnN (16 * g + d))) ∧ w' = w) := by
    rw [← prnI_nat]
    exact prn_int _ _
  have D := hid A.tail.tail.tail
  have ho := or_hex g d hg hd
  clear A hf hg eN
  generalize 16 * g + d = N at *
  cases hp : prnN N with
  | true =>
    rw [if_pos rfl]
    go_enter Tryz.func105, Tryz.ntmps105
    go_wp2_with (go_at_call 123; refine P.out.mono ?_; rintro e w1 ⟨rfl, rfl⟩; rw [hp])
    go_ret
    exact ⟨rfl, D.out⟩
  | false =>
    rw [if_neg (by simp)]
    go_enter Tryz.func105, Tryz.ntmps105
    go_wp2_with (first | (go_at_call 123; refine P.out.mono ?_; rintro e w1 ⟨rfl, rfl⟩; rw [hp]) | (go_at_call 129; refine T.out.mono ?_; rintro e w1 ⟨rfl, dv', A1⟩; have A2 := hid A1; clear A1))
    go_ret
    exact ⟨rfl, _, _, _, _, _, _, _, ⟨rfl, rfl, rfl⟩, A2.out⟩

/-- IndexByte in the digits. -/
theorem idxHex (b : UInt8) : Lib.indexByte [48, 49, 50, 51, 52, 53, 54, 55, 56, 57, 97, 98, 99, 100, 101, 102] b = match hexN b.toNat with | none => -1 | some d => (d : Int) := by
  have h : ∀ n : Fin 256, Lib.indexByte [48, 49, 50, 51, 52, 53, 54, 55, 56, 57, 97, 98, 99, 100, 101, 102] (UInt8.ofNat n.val) = match hexN n.val with | none => -1 | some d => (d : Int) := by decide +kernel
  have := h ⟨b.toNat, by have := b.toNat_lt; omega⟩
  simpa using this
theorem index_any (b : UInt8) (w : World) : Calls Tryz.prog 104 #[.string ⟨#[48, 49, 50, 51, 52, 53, 54, 55, 56, 57, 97, 98, 99, 100, 101, 102]⟩, .int .u8 (b.toNat : Int)] w fun e w' => e = .returned (.int .i64 (match hexN b.toNat with | none => -1 | some d => (d : Int))) ∧ w' = w := by
  have := Any.strings_IndexByte Tryz.lays137 ⟨#[48, 49, 50, 51, 52, 53, 54, 55, 56, 57, 97, 98, 99, 100, 101, 102]⟩ (b.toNat : Int) w
  rw [← idxHex b]
  have e : ((b.toNat : Int).toNat.toUInt8) = b := by simp
  rw [e] at this
  exact this

set_option maxHeartbeats 800000 in
set_option maxRecDepth 1000000 in
/-- A byte within quotes. -/
theorem quoted_any {B : Nat} {s : St} {ws : Ws} {k : Nat} {b : UInt8} {cs : List Comp} {w : World} (h : RdAt B s ws cs w) (hs : s ≠ .ahead ∧ (∀ x, s ≠ .bare x) ∧ s ≠ .closed) (hl : s.held ≤ 140737488355328) (hl2 : ws.length + 1 ≤ 1000000000000) :
    Calls Tryz.prog 69 #[ptr B, .int .i64 (k : Int), .int .u8 (b.toNat : Int)] w (StepPost B cs (stepW s ws k b)) := by
  cases s with
  | ahead => exact absurd rfl hs.1
  | bare x => exact absurd rfl (hs.2.1 x)
  | closed => exact absurd rfl hs.2.2
  | quote o x =>
    have C := hid (plain_any (k := k) (b := b) h hl hl2)
    obtain ⟨st, wv, dv, op, es, cd, wd, ⟨rfl, rfl, rfl⟩, A⟩ := h
    obtain ⟨⟨s0, s1, s2, s3, s4, s5⟩, hf⟩ := rd_cells A
    clear A hf hs
    generalize hO : stepW (St.quote o wd) ws k b = O at *
    clear hO
    generalize (b.toNat : Int) = bi at *
    go_enter Tryz.func69, Tryz.ntmps69
    go_wp2_with (go_at_call 102; refine C.out.mono ?_; intro e w1 hp; have HP := hid hp; clear hp; obtain ⟨i, rfl⟩ : ∃ i, e = .returned (.int .i64 i) := by (cases O with | go s ws => exact ⟨_, HP.out.1⟩ | bad j => exact ⟨_, HP.out.1⟩))
    go_ret
    exact HP.out
  | esc o x f =>
    have C := hid (escaped_any (k := k) (b := b) h hl)
    obtain ⟨st, wv, dv, op, es, cd, wd, ⟨rfl, rfl, rfl, rfl⟩, A⟩ := h
    obtain ⟨⟨s0, s1, s2, s3, s4, s5⟩, hf⟩ := rd_cells A
    clear A hf hs
    generalize hO : stepW (St.esc o wd f) ws k b = O at *
    clear hO
    generalize (b.toNat : Int) = bi at *
    go_enter Tryz.func69, Tryz.ntmps69
    go_wp2_with (go_at_call 103; refine C.out.mono ?_; intro e w1 hp; have HP := hid hp; clear hp; obtain ⟨i, rfl⟩ : ∃ i, e = .returned (.int .i64 i) := by (cases O with | go s ws => exact ⟨_, HP.out.1⟩ | bad j => exact ⟨_, HP.out.1⟩))
    go_ret
    exact HP.out
  | high o x f =>
    have I := hid (index_any b w)
    have C := fun d hd => hid (digit_high (d := d) h hd)
    have D := hid h.drop
    obtain ⟨st, wv, dv, op, es, cd, wd, ⟨rfl, rfl, rfl, rfl⟩, A⟩ := h
    obtain ⟨⟨s0, s1, s2, s3, s4, s5⟩, hf⟩ := rd_cells A
    clear A hf hs
    cases hx : hexN b.toNat with
    | none =>
      have e1 : stepW (.high o wd f) ws k b = .bad k := by simp [stepW, hx]
      rw [e1]
      rw [hx] at I
      clear e1 hx C
      generalize (b.toNat : Int) = bi at *
      go_enter Tryz.func69, Tryz.ntmps69
      go_wp2_with (go_at_call 104; refine I.out.mono ?_; rintro e w1 ⟨rfl, rfl⟩; simp only)
      go_ret
      exact ⟨rfl, D.out⟩
    | some d =>
      have e1 : stepW (.high o wd f) ws k b = .go (.low o wd f d) ws := by simp [stepW, hx]
      rw [e1]
      rw [hx] at I
      have hd := hexN_lt hx
      have C := C d hd
      clear e1 hx
      have hw : IntKind.u8.wrap (d : Int) = d := by
        have : ∀ a : Fin 16, IntKind.u8.wrap (a.val : Int) = a.val := by decide +kernel
        exact this ⟨d, hd⟩
      generalize hO : Out.go (.low o wd f d) ws = O at *
      clear hO
      generalize (b.toNat : Int) = bi at *
      go_enter Tryz.func69, Tryz.ntmps69
      go_wp2_with (first | (go_at_call 104; refine I.out.mono ?_; rintro e w1 ⟨rfl, rfl⟩; simp only) | (go_at_call 105; refine C.out.mono ?_; intro e w1 hp; have HP := hid hp; clear hp; obtain ⟨i, rfl⟩ : ∃ i, e = .returned (.int .i64 i) := by (cases O with | go s ws => exact ⟨_, HP.out.1⟩ | bad j => exact ⟨_, HP.out.1⟩)))
      go_ret
      exact HP.out
  | low o x f g =>
    have I := hid (index_any b w)
    have C := fun d hd => hid (digit_low (d := d) h hl hd)
    have D := hid h.drop
    obtain ⟨st, wv, dv, op, es, cd, wd, ⟨rfl, rfl, rfl, rfl, rfl, hg⟩, A⟩ := h
    obtain ⟨⟨s0, s1, s2, s3, s4, s5⟩, hf⟩ := rd_cells A
    clear A hf hs hg
    cases hx : hexN b.toNat with
    | none =>
      have e1 : stepW (.low o wd f g) ws k b = .bad k := by simp [stepW, hx]
      rw [e1]
      rw [hx] at I
      clear e1 hx C
      generalize (b.toNat : Int) = bi at *
      go_enter Tryz.func69, Tryz.ntmps69
      go_wp2_with (go_at_call 104; refine I.out.mono ?_; rintro e w1 ⟨rfl, rfl⟩; simp only)
      go_ret
      exact ⟨rfl, D.out⟩
    | some d =>
      have e1 : stepW (.low o wd f g) ws k b = (if prnN (16 * g + d) = true then .bad f else .go (.quote o (wd ++ [UInt8.ofNat (16 * g + d)])) ws) := by simp [stepW, hx]
      rw [e1]
      rw [hx] at I
      have hd := hexN_lt hx
      have C := C d hd
      clear e1 hx
      have hw : IntKind.u8.wrap (d : Int) = d := by
        have : ∀ a : Fin 16, IntKind.u8.wrap (a.val : Int) = a.val := by decide +kernel
        exact this ⟨d, hd⟩
      generalize hO : (if prnN (16 * g + d) = true then Out.bad f else .go (.quote o (wd ++ [UInt8.ofNat (16 * g + d)])) ws) = O at *
      clear hO
      generalize (b.toNat : Int) = bi at *
      go_enter Tryz.func69, Tryz.ntmps69
      go_wp2_with (first | (go_at_call 104; refine I.out.mono ?_; rintro e w1 ⟨rfl, rfl⟩; simp only) | (go_at_call 105; refine C.out.mono ?_; intro e w1 hp; have HP := hid hp; clear hp; obtain ⟨i, rfl⟩ : ∃ i, e = .returned (.int .i64 i) := by (cases O with | go s ws => exact ⟨_, HP.out.1⟩ | bad j => exact ⟨_, HP.out.1⟩)))
      go_ret
      exact HP.out
end Go.Proofs.YtfeppannfcbakaaGreatDoor

namespace Go.Proofs.YtfeppannfcbakaaGreatDoor
open Go.RowKit
set_option linter.unusedVariables false

/-- What Split answers, in memory of its own. -/
def SplitPost (A : Ans) (cs : List Comp) (e : Ending) (w' : World) : Prop :=
  ∃ v, e = .returned (.tuple #[v, .int .i64 (A.at : Int), .int .i64 (A.err : Int)]) ∧ All (ownC 9 v (txW A.ws) :: cs) w'

set_option maxRecDepth 1000000 in
theorem answer_bad {B n k : Nat} {cs : List Comp} {w : World} (h : All cs w) :
    Calls Tryz.prog 70 #[ptr B, .int .i64 (n : Int), .int .i64 (k : Int)] w (SplitPost (.byte k) cs) := by
  have A := hid (All.addNil (e := 9) h)
  have hk : ((k : Int) != -1) = true := by simp
  clear h
  go_enter Tryz.func70, Tryz.ntmps70
  go_wp2
  go_ret3
  exact ⟨_, rfl, A.out⟩

theorem perm_w {α : Type} (a b c : α) (cs : List α) : (a :: b :: c :: cs).Perm (a :: c :: b :: cs) := by
  exact List.Perm.cons _ (List.Perm.swap _ _ _)

set_option maxHeartbeats 800000 in
set_option maxRecDepth 1000000 in
theorem answer_fin {B n : Nat} {s : St} {ws : Ws} {cs : List Comp} {w : World} (h : RdAt B s ws cs w) (hl2 : ws.length + 1 ≤ 1000000000000) :
    Calls Tryz.prog 70 #[ptr B, .int .i64 (n : Int), .int .i64 (-1)] w (SplitPost (finW s ws n) cs) := by
  obtain ⟨st, wv, dv, op, es, cd, wd, hF, A⟩ := h
  by_cases h3 : 3 ≤ st
  · have e1 : finW s ws n = .stop n := by
      cases s <;> simp only [Fits] at hF <;> simp only [finW] <;> omega
    rw [e1]
    obtain ⟨⟨s0, s1, s2, s3, s4, s5⟩, hf⟩ := rd_cells A
    have D := hid (All.addNil (e := 9) A.tail.tail.tail)
    clear A hf hF e1
    go_enter Tryz.func70, Tryz.ntmps70
    go_wp2
    go_ret3
    exact ⟨_, rfl, D.out⟩
  · have h3' : st < 3 := by omega
    by_cases h1 : st = 1
    · have e1 : finW s ws n = .ok (ws ++ [wd]) := by
        cases s <;> simp only [Fits] at hF <;> simp only [finW] <;> (first | omega | (rw [hF.2]))
      rw [e1]
      subst h1
      obtain ⟨⟨s0, s1, s2, s3, s4, s5⟩, hf⟩ := rd_cells A
      have E := hid (end_any A hl2)
      clear A hf hF e1 h3 h3'
      go_enter Tryz.func70, Tryz.ntmps70
      go_wp2_with (go_at_call 68; refine E.out.mono ?_; rintro e w1 ⟨rfl, wv', A1⟩; clear s0 s1 s2 s3 s4 s5; have hc := rd_cells A1; obtain ⟨⟨s0, s1, s2, s3, s4, s5⟩, hf⟩ := hc; have D := hid (((A1.tail).perm (List.Perm.swap _ _ _)).tail); clear A1 hf)
      go_ret3
      exact ⟨_, rfl, D.out⟩
    · have e1 : finW s ws n = .ok ws := by
        cases s <;> simp only [Fits] at hF <;> simp only [finW] <;> omega
      have n1 : (st == 1) = false := by simpa using h1
      rw [e1]
      obtain ⟨⟨s0, s1, s2, s3, s4, s5⟩, hf⟩ := rd_cells A
      have D := hid (((A.tail).perm (List.Perm.swap _ _ _)).tail)
      clear A hf hF e1 h1
      go_enter Tryz.func70, Tryz.ntmps70
      go_wp2
      go_ret3
      exact ⟨_, rfl, D.out⟩

/-- A byte more in the word. -/
theorem word_app {B : Nat} {st : Int} {wv dv : Value} {op es cd : Int} {ws : Ws} {wd : List UInt8} {cs : List Comp} {w : World} (b : UInt8) (h : All (rdL B st wv dv op es cd ws wd ++ cs) w) (hl : wd.length + 1 ≤ 140737488355328) :
    ∃ ao0 c0 ao c w1, dv = .slice ao0 wd.length c0 ∧ (Builtin.append_ #[32, 32] 32 #[.slice ao0 wd.length c0, .slice (some ⟨w.heap.size, 0, none⟩) 1 1]).run Tryz.prog (w.alloc (.cells #[.int .u8 (b.toNat : Int)] 5)) = .ok (.slice ao (wd.length + 1) c) w1 ∧
      w.cell? ⟨B, 2, none⟩ = some (.slice ao0 wd.length c0) ∧ w1.cell? ⟨B, 2, none⟩ = some (.slice ao0 wd.length c0) ∧ w1.frozen? ⟨B, 2, none⟩ = false ∧ All (rdL B st wv (.slice ao (wd.length + 1) c) op es cd ws (wd ++ [b]) ++ cs) (w1.setCell ⟨B, 2, none⟩ (.slice ao (wd.length + 1) c)) := by
  obtain ⟨⟨s0, s1, s2, s3, s4, s5⟩, hf⟩ := rd_cells h
  obtain ⟨ao0, c0, rfl⟩ := owns_form (h.tail.tail.1.2.1 : w.ownsRow 0 5 1 dv _ _)
  obtain ⟨ao, c, w1, hr, A1⟩ := app_byte (h.perm (perm3a _ _ _ _)) b hl
  obtain ⟨⟨t0, t1, t2, t3, t4, t5⟩, hf1⟩ := rd_cells A1.tail
  rw [cellsB_length] at *
  exact ⟨ao0, c0, ao, c, w1, rfl, hr, s2, t2, hf1 2, (A1.perm (perm3a _ _ _ _).symm).setBlk 2 (.slice ao (wd.length + 1) c)⟩
end Go.Proofs.YtfeppannfcbakaaGreatDoor
