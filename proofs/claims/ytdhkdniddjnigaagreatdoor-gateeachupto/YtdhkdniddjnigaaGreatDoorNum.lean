import Derived.Test.YtdhkdniddjnigaaGreatDoorBas
import Derived.Test.YtdhkdniddjnigaaGreatDoorNm
import Derived.Test.YtdhkdniddjnigaaGreatDoorSLay
import Derived.Lib.AtoiAllCases
namespace Go.Proofs.YtdhkdniddjnigaaGreatDoor
open Go.RowKit
set_option linter.unusedVariables false

/-- What the library's variables hold. -/
structure Vars (w : World) : Prop where
  es : ∃ tp p, w.var? Tryz.prog "strconv.ErrSyntax" = some #[.iface tp p]
  er : ∃ tp p, w.var? Tryz.prog "strconv.ErrRange" = some #[.iface tp p]
  pw : Lib.TabIs Tryz.prog w "internal/strconv.uint64pow10" .u64 Lib.pow10Tab
theorem var_later {w w' : World} (hb : Below w.heap.size w w') {n : String} {cs : Array Value} (h : w.var? Tryz.prog n = some cs) : w'.var? Tryz.prog n = some cs := by
  unfold World.var? at h ⊢
  cases hg : Tryz.prog.globalNamed n with
  | none => rw [hg] at h; simp at h
  | some g =>
    rw [hg] at h
    simp only [Option.bind_some] at h ⊢
    by_cases hlt : g < w.heap.size
    · rw [hb.block g hlt]; exact h
    · rw [Array.getElem?_eq_none (by omega)] at h; simp at h
theorem Vars.later {w w' : World} (h : Vars w) (hb : Below w.heap.size w w') : Vars w' := by
  obtain ⟨⟨t1, p1, h1⟩, ⟨t2, p2, h2⟩, h3⟩ := h
  exact ⟨⟨t1, p1, var_later hb h1⟩, ⟨t2, p2, var_later hb h2⟩, var_later hb h3⟩

theorem grow_bel (w : World) (k : Nat) (os : Array Obj) : Below w.heap.size w (Sort.grow (w.drewN k) os) := by
  refine ⟨rfl, rfl, rfl, by simp [Sort.grow], fun j hj => ?_⟩
  show (w.heap ++ os)[j]? = _
  rw [Array.getElem?_append_left hj]

theorem Itoa_any {v : Int} {w : World} (V : Vars w) (h0 : 0 ≤ v) (h1 : v ≤ 9223372036854775807) : Calls Tryz.prog 61 #[.int .i64 v] w fun e w' => e = .returned (.string ⟨(Lib.itoa v).toArray⟩) ∧ Below w.heap.size w w' := by
  refine Calls.mono (Any.strconv_Itoa Tryz.laysM171 v (by omega) h1 w V.pw) ?_
  rintro e w' ⟨he, k, os, rfl⟩
  exact ⟨he, grow_bel w k os⟩
theorem Atoi_ok {l : List UInt8} {v : Int} {w : World} (hl : l.length ≤ 140737488355328) (h : Lib.atoiAll l = .ok v) : Calls Tryz.prog 192 #[.string ⟨l.toArray⟩] w fun e w' => e = .returned (.tuple #[.int .i64 v, .nilIface]) ∧ Below w.heap.size w w' := by
  have hz : (⟨l.toArray⟩ : ByteArray).size = l.length := by simp [ByteArray.size]
  refine Calls.mono (Any.strconv_Atoi_ok Tryz.laysC172 ⟨l.toArray⟩ (by rw [hz]; omega) v (by simpa using h) w) ?_
  rintro e w' ⟨he, rfl | ⟨t, rfl⟩⟩
  · exact ⟨he, Below.refl _ _⟩
  · exact ⟨he, Lib.bytesWorld_below _ _ _⟩
theorem Atoi_bad {l : List UInt8} {w : World} (V : Vars w) (hl : l.length ≤ 140737488355328) (h : ∀ v, Lib.atoiAll l ≠ .ok v) : Calls Tryz.prog 192 #[.string ⟨l.toArray⟩] w fun e w' => ∃ z t N, e = .returned (.tuple #[.int .i64 z, .iface t (.pointer (some ⟨N, 0, none⟩))]) ∧ Below w.heap.size w w' := by
  have hz : (⟨l.toArray⟩ : ByteArray).size = l.length := by simp [ByteArray.size]
  cases hA : Lib.atoiAll l with
  | ok v => exact absurd hA (h v)
  | «syntax» =>
    obtain ⟨tp, p, hv⟩ := V.es
    refine Calls.mono (Any.strconv_Atoi_syntax_var Tryz.laysC172 ⟨l.toArray⟩ (by rw [hz]; omega) (by simpa using hA) tp p w hv) ?_
    rintro e w' ⟨N, he, _, _, hb⟩
    exact ⟨_, _, N, he, hb⟩
  | range =>
    obtain ⟨tp, p, hv⟩ := V.er
    refine Calls.mono (Any.strconv_Atoi_range_var Tryz.laysC172 ⟨l.toArray⟩ (by rw [hz]; omega) (by simpa using hA) tp p w hv) ?_
    rintro e w' ⟨N, he, _, _, hb⟩
    exact ⟨_, _, N, he, hb⟩

/-- What Number answers. -/
def numA (l : List UInt8) : Value := .tuple #[.int .i64 (((numW l).getD 0 : Nat) : Int), .bool (numW l).isSome]

set_option maxHeartbeats 1000000 in
set_option maxRecDepth 1000000 in
theorem Number_any {l : List UInt8} {w : World} (V : Vars w) (hl : l.length ≤ 140737488355328) :
    Calls Tryz.prog 164 #[.string ⟨l.toArray⟩] w fun e w' => e = .returned (numA l) ∧ Below w.heap.size w w' := by
  cases hN : numW l with
  | some v =>
    have e1 : numA l = .tuple #[.int .i64 (v : Int), .bool true] := by unfold numA; rw [hN]; rfl
    rw [e1]
    have hle := numW_le hN
    have C := hid (Atoi_ok (w := w) hl (atoi_of hN))
    have IT : Hid (∀ W, Below w.heap.size w W → Calls Tryz.prog 61 #[.int .i64 (v : Int)] W fun e w' => e = .returned (.string ⟨l.toArray⟩) ∧ Below W.heap.size W w') := hid (fun W hb => by
      have := Itoa_any (v := (v : Int)) (V.later hb) (by omega) (by omega)
      have e2 : Lib.itoa (v : Int) = l := by
        unfold Lib.itoa
        rw [if_neg (by omega), Int.toNat_natCast]
        exact (numW_spelt hN).symm
      rw [e2] at this
      exact this)
    have ne : ((⟨l.toArray⟩ : ByteArray).toList != (⟨l.toArray⟩ : ByteArray).toList) = false := by simp
    have hv0 : ¬ (v : Int) < 0 := by omega
    clear e1 hN V hl
    generalize ByteArray.mk l.toArray = L at *
    go_enter Tryz.func164, Tryz.ntmps164
    go_wp2_with (go_at_call 192; refine C.out.mono ?_; rintro e w1 ⟨rfl, B1⟩; have Q := hid (IT.out w1 B1); have BB := hid B1; clear B1; refine Hid.out ?_)
    refine hid ?_
    go_wp2_with (go_at_call 61; refine Q.out.mono ?_; rintro e w2 ⟨rfl, B2⟩; have B3 := hid (BB.out.trans (B2.mono BB.out.size)); clear B2)
    go_ret2
    exact ⟨rfl, B3.out⟩
  | none =>
    have e1 : numA l = .tuple #[.int .i64 0, .bool false] := by unfold numA; rw [hN]; rfl
    rw [e1]
    by_cases hA : ∃ v, Lib.atoiAll l = .ok v
    · obtain ⟨v, hA⟩ := hA
      have hb := Lib.atoiAll_bounds hA
      have C := hid (Atoi_ok (w := w) hl hA)
      by_cases hv0 : v < 0
      · clear hb e1 hN V hl hA
        generalize ByteArray.mk l.toArray = L at *
        go_enter Tryz.func164, Tryz.ntmps164
        go_wp2_with (go_at_call 192; refine C.out.mono ?_; rintro e w1 ⟨rfl, B1⟩; have BB := hid B1; clear B1)
        go_ret2
        exact ⟨rfl, BB.out⟩
      · have hno := numW_none hN hb.2 (by omega)
        have IT : Hid (∀ W, Below w.heap.size w W → Calls Tryz.prog 61 #[.int .i64 v] W fun e w' => e = .returned (.string ⟨(Lib.itoa v).toArray⟩) ∧ Below W.heap.size W w') := hid (fun W hw => Itoa_any (V.later hw) (by omega) hb.2)
        have ne : ((⟨(Lib.itoa v).toArray⟩ : ByteArray).toList == (⟨l.toArray⟩ : ByteArray).toList) = false := by
          rw [ba_ne]; exact decide_eq_false hno
        clear hb e1 hN V hl hA hno
        generalize ByteArray.mk (Lib.itoa v).toArray = M at *
        generalize ByteArray.mk l.toArray = L at *
        have ne' : (M.toList != L.toList) = true := by simp only [bne, ne]; rfl
        go_enter Tryz.func164, Tryz.ntmps164
        go_wp2_with (go_at_call 192; refine C.out.mono ?_; rintro e w1 ⟨rfl, B1⟩; have Q := hid (IT.out w1 B1); have BB := hid B1; clear B1; refine Hid.out ?_)
        refine hid ?_
        go_wp2_with (go_at_call 61; refine Q.out.mono ?_; rintro e w2 ⟨rfl, B2⟩; have B3 := hid (BB.out.trans (B2.mono BB.out.size)); clear B2)
        go_ret2
        exact ⟨rfl, B3.out⟩
    · have C := hid (Atoi_bad V hl (fun v e => hA ⟨v, e⟩))
      clear e1 hN V hl hA
      generalize ByteArray.mk l.toArray = L at *
      go_enter Tryz.func164, Tryz.ntmps164
      go_wp2_with (go_at_call 192; refine C.out.mono ?_; rintro e w1 ⟨z, t, N, rfl, B1⟩; have BB := hid B1; clear B1)
      go_ret2
      exact ⟨rfl, BB.out⟩
end Go.Proofs.YtdhkdniddjnigaaGreatDoor
