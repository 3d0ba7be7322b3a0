import Derived.Test.YtphcfkfdkaphbaaMark
import Derived.Test.YtphcfkfdkaphbaaCplS
import Derived.Test.YtphcfkfdkaphbaaRefA
import Derived.Test.YtphcfkfdkaphbaaRefK
import Derived.Test.YtphcfkfdkaphbaaTickS
import Derived.Test.YtphcfkfdkaphbaaArmedS
namespace Go.Proofs.Ytphcfkfdkaphbaa
open Go.RowKit Go.Maps
set_option linter.unusedVariables false

theorem All.tabS_fit {P b n : Nat} {D : DataW Unit} {cs : List Comp} {w : World} (h : All (tabS P b n D :: cs) w) : All (tabS P b (Maps.size D) D :: cs) w := by
  obtain ⟨⟨g, ⟨h1, es, clock, hb, F, hs, hD⟩, hl⟩, hd, hr⟩ := h
  refine ⟨⟨tabS_good _ _ _ _, ⟨h1, es, clock, hb, F, ?_, hD⟩, hl⟩, hd, hr⟩
  rw [hD]
  simp [Maps.size, length_sorted]
theorem All.tabS_size {P b n : Nat} {D : DataW Unit} {cs : List Comp} {w : World} {ts : List Tm} (h : All (tabS P b n D :: cs) w) (hc : CpS D ts) : Maps.size D = ts.length := by
  obtain ⟨es, hD, hp, hk⟩ := h.1.2.1.2.entries lawS
  exact hc.size hD hp hk
theorem All.tabS_isMap {P b n : Nat} {D : DataW Unit} {cs : List Comp} {w : World} (h : All (tabS P b n D :: cs) w) : Maps.IsMap D := by
  obtain ⟨es, hD, hp, hk⟩ := h.1.2.1.2.entries lawS
  exact ⟨es, hD⟩

/-- What Arm answers, and what comes of it. -/
def armSE (D : DataW Unit) (s : ByteArray) (m : Int) : Int := if m < 1 ∨ 1024 < m then 30 else if Maps.has D (.string s.data.toList) = false ∧ 32 ≤ Maps.size D then 31 else 0
def armSD (D : DataW Unit) (s : ByteArray) (m : Int) : DataW Unit := if m < 1 ∨ 1024 < m then D else if Maps.has D (.string s.data.toList) = false ∧ 32 ≤ Maps.size D then D else D.put (.string s.data.toList) (.lit (.int .i64 m))

theorem ArmSP {P b n : Nat} {D : DataW Unit} {cs : List Comp} {w : World} (h : All (tabS P b n D :: cs) w) (hz : Maps.size D ≤ 32) (s : ByteArray) (hk : s.size ≤ maxLen) (m : Int) : Calls Try.prog 10 #[.pointer (some ⟨P, 0, none⟩), .string s, .int .i64 m] w fun e w' => e = .returned (.int .i64 (armSE D s m)) ∧ All (tabS P b (Maps.size (armSD D s m)) (armSD D s m) :: cs) w' := by
  have hf := h.tabS_fit
  by_cases hm : m < 1 ∨ 1024 < m
  · rw [armSE, armSD, if_pos hm, if_pos hm]
    refine (ArmS_ticks hf s hm).mono ?_
    rintro e w' ⟨rfl, rfl⟩
    exact ⟨rfl, hf⟩
  · rw [armSE, armSD, if_neg hm, if_neg hm]
    by_cases hc : Maps.has D (.string s.data.toList) = false ∧ 32 ≤ Maps.size D
    · rw [if_pos hc, if_pos hc]
      refine (ArmS_full hf s hk (by omega) (by omega) hc.1 hc.2 (by omega)).mono ?_
      rintro e w' ⟨rfl, rfl⟩
      exact ⟨rfl, hf⟩
    · rw [if_neg hc, if_neg hc]
      refine (ArmS_ok hf s hk (by omega) (by omega) (by omega) ?_).mono ?_
      · cases hh : Maps.has D (.string s.data.toList) with
        | true => exact .inl rfl
        | false => exact .inr (by have : ¬ 32 ≤ Maps.size D := fun h32 => hc ⟨hh, h32⟩; omega)
      · rintro e w' ⟨rfl, hA⟩
        exact ⟨rfl, hA.tabS_fit⟩

theorem CancelSP {P b n : Nat} {D : DataW Unit} {cs : List Comp} {w : World} (h : All (tabS P b n D :: cs) w) (s : ByteArray) (hk : s.size ≤ maxLen) : Calls Try.prog 23 #[.pointer (some ⟨P, 0, none⟩), .string s] w fun e w' => e = .returned (.bool (Maps.has D (.string s.data.toList))) ∧ All (tabS P b (Maps.size (D.del (.string s.data.toList))) (D.del (.string s.data.toList)) :: cs) w' :=
  (CancelS h s hk).mono (fun e w' hh => ⟨hh.1, hh.2.tabS_fit⟩)

theorem RCancelSP {R : Nat} {v : Value} {ts : List Tm} {D : DataW Unit} {cs : List Comp} {w : World} (h : All (refC R v ts :: cs) w) (hc : CpS D ts) (hl : ts.length ≤ 32) (s : ByteArray) : Calls Try.prog 17 #[.pointer (some ⟨R, 0, none⟩), .agg #[.string s, .int .i64 0]] w fun e w' => ∃ v' ts', e = .returned (.bool (Maps.has D (.string s.data.toList))) ∧ All (refC R v' ts' :: cs) w' ∧ CpS (D.del (.string s.data.toList)) ts' ∧ ts'.length ≤ 32 := by
  rcases hc.place s with ⟨h1, h2, h3⟩ | ⟨p, x, h1, h2, h3, h4⟩
  · refine (RCancel_no h (by omega) s 0 h1).mono ?_
    rintro e w' ⟨rfl, hA⟩
    exact ⟨v, ts, by rw [h2], hA, hc.del_none h2 h3, hl⟩
  · refine (RCancel_yes h (by omega) s 0 h1).mono ?_
    rintro e w' ⟨v', rfl, hA⟩
    have := hc.cancel h2
    rw [lS, h3] at this
    exact ⟨v', _, by rw [h4], hA, this, by have := List.length_eraseIdx_le ts p; omega⟩

theorem RArmSP {R : Nat} {v : Value} {ts : List Tm} {D : DataW Unit} {cs : List Comp} {w : World} (h : All (refC R v ts :: cs) w) (hc : CpS D ts) (hM : Maps.IsMap D) (hz : Maps.size D = ts.length) (hl : ts.length ≤ 32) (s : ByteArray) (hk : s.size ≤ maxLen) (m : Int) : Calls Try.prog 19 #[.pointer (some ⟨R, 0, none⟩), .agg #[.string s, .int .i64 0], .int .i64 m] w fun e w' => ∃ v' ts', e = .returned (.int .i64 (armSE D s m)) ∧ All (refC R v' ts' :: cs) w' ∧ CpS (armSD D s m) ts' ∧ ts'.length ≤ 32 := by
  by_cases hm : m < 1 ∨ 1024 < m
  · rw [armSE, armSD, if_pos hm, if_pos hm]
    refine (RArm_ticks s 0 hm).mono ?_
    rintro e w' ⟨rfl, hb⟩
    exact ⟨v, ts, rfl, h.later hb, hc, hl⟩
  · rw [armSE, armSD, if_neg hm, if_neg hm]
    rcases hc.place s with ⟨h1, h2, h3⟩ | ⟨p, x, h1, h2, h3, h4⟩
    · by_cases h32 : 32 ≤ ts.length
      · rw [if_pos ⟨h2, by omega⟩, if_pos ⟨h2, by omega⟩]
        refine (RArm_full h (by omega) s 0 (by omega) (by omega) h1 h32).mono ?_
        rintro e w' ⟨rfl, hA⟩
        exact ⟨v, ts, rfl, hA, hc, hl⟩
      · rw [if_neg (fun hh => h32 (by have := hh.2; omega)), if_neg (fun hh => h32 (by have := hh.2; omega))]
        refine (RArm_new h s 0 (by omega) (by omega) h1 (by omega)).mono ?_
        rintro e w' ⟨v', rfl, hA⟩
        exact ⟨v', _, rfl, hA, hc.new hM hk h3 (by omega) (by omega), by rw [insTS_eq _ rfl hc.num, insRS_len]; omega⟩
    · rw [if_neg (fun hh => by rw [h4] at hh; cases hh.1), if_neg (fun hh => by rw [h4] at hh; cases hh.1)]
      refine (RArm_there h (by omega) s 0 (by omega) (by omega) h1 h2).mono ?_
      rintro e w' ⟨rfl, hA⟩
      have := hc.again hM h2 (m := m) (by omega) (by omega)
      rw [lS, h3] at this
      exact ⟨v, _, rfl, hA, this, by simpa using hl⟩

/-- What is left, there and here. -/
theorem RLeftSP {R : Nat} {v : Value} {ts : List Tm} {D : DataW Unit} {cs : List Comp} {w : World} (h : All (refC R v ts :: cs) w) (hc : CpS D ts) (hl : ts.length ≤ 32) (s : ByteArray) : ∃ m : Int, (Maps.has D (.string s.data.toList) = false → m = 0) ∧ (Maps.has D (.string s.data.toList) = true → m = leftD D (.string s.data.toList)) ∧ Calls Try.prog 46 #[.pointer (some ⟨R, 0, none⟩), .agg #[.string s, .int .i64 0]] w fun e w' => e = .returned (.tuple #[.int .i64 m, .bool (Maps.has D (.string s.data.toList))]) ∧ Below w.heap.size w w' := by
  rcases hc.place s with ⟨h1, h2, h3⟩ | ⟨p, x, h1, h2, h3, h4⟩
  · refine ⟨0, fun _ => rfl, (fun e => by rw [h2] at e; cases e), ?_⟩
    rw [h2]
    exact RLeft_no h (by omega) s 0 h1
  · refine ⟨x.l, (fun e => by rw [h4] at e; cases e), fun _ => ?_, ?_⟩
    · have := hc.val x (List.mem_of_getElem? h2)
      rw [lS, h3] at this
      exact this.symm
    · rw [h4]
      exact RLeft_yes h (by omega) s 0 h1 h2

theorem leftD_none {D : DataW Unit} {kl : Lit} (h : Maps.has D kl = false) : leftD D kl = 0 := by
  unfold leftD
  rw [Maps.atKey_of_not_has h]

theorem enc_kt (ts : List Tm) : (ts.map kt).map encStr = ts.map fun x => .string x.t := by
  rw [List.map_map]
  refine List.map_congr_left fun x _ => ?_
  rfl

theorem TickSP {P b n : Nat} {D : DataW Unit} {ts : List Tm} {cs : List Comp} {w : World} (h : All (tabS P b n D :: cs) w) (hc : CpS D ts) (hl : ts.length ≤ 32) :
    Calls Try.prog 11 #[.pointer (some ⟨P, 0, none⟩)] w fun e w' => ∃ (v : Value) (D' : DataW Unit), e = .returned v ∧ CpS D' (stayT ts) ∧ All (ownC 9 v ((goneT ts).map fun x => .string x.t) :: tabS P b (Maps.size D') D' :: cs) w' := by
  have hz := h.tabS_size hc
  refine (TickS h.tabS_fit (by omega)).mono ?_
  rintro e w' ⟨v, ss, D', rfl, hT, hA⟩
  obtain ⟨h1, h2⟩ := hc.tick hT
  rw [h2, enc_kt] at hA
  exact ⟨v, D', rfl, h1, hA.swap.tabS_fit.swap⟩
theorem ArmedSP {P b n : Nat} {D : DataW Unit} {ts : List Tm} {cs : List Comp} {w : World} (h : All (tabS P b n D :: cs) w) (hc : CpS D ts) (hl : ts.length ≤ 32) :
    Calls Try.prog 47 #[.pointer (some ⟨P, 0, none⟩)] w fun e w' => ∃ (v : Value), e = .returned v ∧ All (ownC 9 v (ts.map fun x => .string x.t) :: tabS P b n D :: cs) w' := by
  have hz := h.tabS_size hc
  have hf := h.tabS_fit
  obtain ⟨es, hD, hp, hk⟩ := h.1.2.1.2.entries lawS
  refine (ArmedS hf (by omega)).mono ?_
  rintro e w' ⟨v, ss, rfl, hs, ho, hb⟩
  have h2 := hc.armed hD hp (fun p hp => ?_) hk hs
  · have hlen : ss.length = ts.length := by
      have := congrArg List.length h2
      simpa using this
    rw [h2, enc_kt, hlen] at ho
    refine ⟨v, rfl, h.addOwn hb ?_⟩
    rw [List.length_map]
    exact ho
  · have : Maps.has D p.1 = true := by rw [hD, Maps.has_eq, List.any_eq_true]; exact ⟨p, hp, WideAt.sameKey_self (hk p hp)⟩
    obtain ⟨x, _, e⟩ := (hc.has p.1).1 this
    exact ⟨_, e⟩
end Go.Proofs.Ytphcfkfdkaphbaa
