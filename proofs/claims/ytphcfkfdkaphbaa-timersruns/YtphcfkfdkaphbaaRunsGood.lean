import Derived.Test.YtphcfkfdkaphbaaTickS
import Derived.Test.YtphcfkfdkaphbaaPat
namespace Go.Proofs.Ytphcfkfdkaphbaa
open Go.RowKit Go.Sort
open Go.Maps (Keyed)
set_option linter.unusedVariables false

/-- What is known of the one timer ahead of the tick number i. -/
structure RunSt (g : Bool) (t : Int) (i : Nat) (D : DataW Unit) (kl : Lit) : Prop where
  has : Maps.has D kl = (g && decide ((i : Int) ≤ t))
  left : Maps.has D kl = true → leftD D kl = t - i + 1

theorem RunSt.same {g : Bool} {t : Int} {i : Nat} {D D' : DataW Unit} {kl : Lit} (h : RunSt g t i D kl) (h1 : Maps.has D' kl = Maps.has D kl) (h2 : leftD D' kl = leftD D kl) : RunSt g t i D' kl :=
  ⟨h1.trans h.has, fun hh => h2.trans (h.left (h1 ▸ hh))⟩

theorem RunSt.tick {g : Bool} {t : Int} {i : Nat} {D D' : DataW Unit} {kl : Lit} {ss : List Lit} (h : RunSt g t i D kl) (hT : TickR D (fun _ => false) D' ss) : RunSt g t (i + 1) D' kl ∧ (kl ∈ ss ↔ (g = true ∧ (i : Int) = t)) := by
  have hh := h.has
  have h1 := hT.has kl
  have h2 := hT.val kl
  have h3 := hT.told kl
  simp only [Bool.false_eq_true, if_false, true_and] at h1 h2 h3
  cases hg : g && decide ((i : Int) ≤ t) with
  | false =>
    rw [hg] at hh
    rw [hh, Bool.false_and] at h1
    have hng : ¬ (g = true ∧ (i : Int) ≤ t) := by simpa using hg
    refine ⟨⟨?_, fun hx => by rw [h1] at hx; cases hx⟩, ?_⟩
    · rw [h1]
      cases g
      · rfl
      · have : ¬ (i : Int) ≤ t := fun e => hng ⟨rfl, e⟩
        have h9 : ¬ ((i + 1 : Nat) : Int) ≤ t := by omega
        rw [decide_eq_false h9]; rfl
    · rw [h3, hh]
      constructor
      · rintro ⟨e, _⟩; cases e
      · rintro ⟨e1, e2⟩; exact absurd ⟨e1, by omega⟩ hng
  | true =>
    rw [hg] at hh
    have hl := h.left hh
    have hgt : g = true ∧ (i : Int) ≤ t := by simpa using hg
    rw [hh, Bool.true_and, hl] at h1
    refine ⟨⟨?_, fun hx => by rw [h2 hx, hl]; push_cast; omega⟩, ?_⟩
    · rw [h1, hgt.1, Bool.true_and]
      congr 1
      apply propext
      constructor <;> intro e <;> push_cast at * <;> omega
    · rw [h3, hl]
      constructor
      · rintro ⟨_, e⟩; exact ⟨hgt.1, by omega⟩
      · rintro ⟨_, e⟩; exact ⟨hh, by omega⟩

theorem key_of (s : ByteArray) (hs : s.size ≤ maxLen) : keyOf Try.prog 9 (.string s) = some (.string s.data.toList) := WideMaps.keyOf_string_mk Try.underlying9 hs

/-- Another one is armed, or not. -/
theorem Arm_other {P b n : Nat} {D : DataW Unit} {cs : List Comp} {w : World} (h : All (tabS P b n D :: cs) w) (s : ByteArray) (hs : s.size ≤ maxLen) (m : Int) (hn : n < 1048576) {kl : Lit} (hne : kl ≠ .string s.data.toList) : Calls Try.prog 10 #[.pointer (some ⟨P, 0, none⟩), .string s, .int .i64 m] w fun e w' => ∃ v n' D', e = .returned v ∧ n' ≤ n + 1 ∧ Maps.has D' kl = Maps.has D kl ∧ leftD D' kl = leftD D kl ∧ All (tabS P b n' D' :: cs) w' := by
  have hsz := h.1.2.1.2.size_le
  by_cases hm : m < 1 ∨ 1024 < m
  · exact (ArmS_ticks h s hm).mono fun e w' ⟨he, hw⟩ => ⟨_, n, D, he, by omega, rfl, rfl, hw ▸ h⟩
  · by_cases hf : Maps.has D (.string s.data.toList) = false ∧ 32 ≤ Maps.size D
    · exact (ArmS_full h s hs (by omega) (by omega) hf.1 hf.2 (by omega)).mono fun e w' ⟨he, hw⟩ => ⟨_, n, D, he, by omega, rfl, rfl, hw ▸ h⟩
    · refine (ArmS_ok h s hs (by omega) (by omega) hn ?_).mono fun e w' ⟨he, hA⟩ => ⟨_, n + 1, _, he, Nat.le_refl _, Maps.has_put_other hne _, leftD_put_other hne _, hA⟩
      cases hc : Maps.has D (.string s.data.toList)
      · right
        have : ¬ 32 ≤ Maps.size D := fun e => hf ⟨hc, e⟩
        omega
      · left; rfl

theorem Cancel_other {P b n : Nat} {D : DataW Unit} {cs : List Comp} {w : World} (h : All (tabS P b n D :: cs) w) (s : ByteArray) (hs : s.size ≤ maxLen) {kl : Lit} (hne : kl ≠ .string s.data.toList) : Calls Try.prog 23 #[.pointer (some ⟨P, 0, none⟩), .string s] w fun e w' => ∃ v n' D', e = .returned v ∧ n' ≤ n + 1 ∧ Maps.has D' kl = Maps.has D kl ∧ leftD D' kl = leftD D kl ∧ All (tabS P b n' D' :: cs) w' :=
  (CancelS h s hs).mono fun e w' ⟨he, hA⟩ => ⟨_, n, _, he, by omega, Maps.has_del_other hne, leftD_del_other hne, hA⟩

theorem count_nodup {α : Type} [BEq α] [LawfulBEq α] {l : List α} {a : α} (h : l.Nodup) (hm : a ∈ l) : l.count a = 1 := by
  induction l with
  | nil => cases hm
  | cons x l ih =>
    obtain ⟨h1, h2⟩ := List.nodup_cons.1 h
    rcases List.mem_cons.1 hm with rfl | hm
    · rw [List.count_cons_self, List.count_eq_zero_of_not_mem h1]
    · have hne : ¬ x = a := fun e => h1 (e ▸ hm)
      rw [List.count_cons_of_ne (by simpa using hne), ih h2 hm]

/-- How often a name stands among those that are told. -/
theorem told_count {ss : List (List UInt8)} {nm : List UInt8} {D D' : DataW Unit} (hT : TickR D (fun _ => false) D' (ss.map Lit.string)) : (ss.mergeSort fun x y => decide (x ≤ y)).count nm = if nm ∈ ss then 1 else 0 := by
  rw [(List.mergeSort_perm ss _).count_eq]
  have hnd : ss.Nodup := by
    have h1 := hT.nodup
    rw [List.Nodup, List.pairwise_map] at h1
    exact h1.imp (fun h e => h (by rw [e]))
  by_cases hm : nm ∈ ss
  · rw [if_pos hm]
    exact count_nodup hnd hm
  · rw [if_neg hm]
    exact List.count_eq_zero_of_not_mem hm

theorem count_take {α : Type} [BEq α] [LawfulBEq α] {l : List α} {k : Nat} {x : α} (h : l[k]? = some x) (a : α) : (l.take (k + 1)).count a = (l.take k).count a + if x == a then 1 else 0 := by
  obtain ⟨hk, e⟩ := List.getElem?_eq_some_iff.1 h
  rw [List.take_succ_eq_append_getElem hk, List.count_append, e]
  congr 1
  rw [List.count_singleton]

theorem All.dropMid {a c : Comp} {cs : List Comp} {w : World} (h : All (a :: c :: cs) w) : All (a :: cs) w := h.swap.tail

set_option maxHeartbeats 25600000 in
set_option maxRecDepth 1000000 in
theorem runs_good {w : World} {v : Value} {xs : List Ac} {nm : List UInt8} {t : Int} (hnm : (⟨nm.toArray⟩ : ByteArray).size ≤ maxLen) (ht1 : 1 ≤ t) (ht2 : t ≤ 1024) (hs : ActsAt w v xs) (hx : ∀ x ∈ xs, x.name.size ≤ maxLen) : Calls Try.prog 5 #[.string ⟨nm.toArray⟩, .int .i64 t, v] w fun e w' => e = .returned (.bool true) ∧ Below w.heap.size w w' := by
  obtain ⟨so, sc, rfl⟩ := hs.form
  have HS := hid hs
  have HX := hid hx
  have hxl : xs.length ≤ maxLen := hs.len
  unfold maxLen at hxl
  have HK := hid (show WideAt.IsKeyLit (Lit.string nm) from by have := lawS.key (key_of ⟨nm.toArray⟩ hnm); simpa using this)
  clear hs hx
  go_enter Try.func5, Try.ntmps5
  go_wp2_with fail
  refine (NewS (All.came w)).mono ?_
  rintro e w1 ⟨P, b, rfl, hA1⟩
  have A1 := hid hA1
  clear hA1
  go_wp2_with fail
  refine (ArmS_ok A1.out ⟨nm.toArray⟩ hnm ht1 ht2 (by omega) (Or.inr (by simp [Maps.size]))).mono ?_
  rintro e w2 ⟨rfl, hA2⟩
  simp only at hA2
  have A2 := hid hA2
  have R2 := hid (show RunSt true t 1 ((DataW.map [] : DataW Unit).put (Lit.string nm) (.lit (.int .i64 t))) (Lit.string nm) from ⟨by rw [Maps.has_put_same ⟨[], rfl⟩ HK.out]; simp [ht1], fun _ => by rw [leftD_put_same ⟨[], rfl⟩ HK.out]; push_cast; omega⟩)
  clear hA2 A1
  go_wp2
  go_loopw [9] (fun iv wr => ∃ (i n : Nat) (D : DataW Unit), iv = .int .i64 (i : Int) ∧ (1 ≤ i ∧ i ≤ 1026) ∧ n ≤ i ∧ Hid (RunSt true t i D (Lit.string nm)) ∧ Hid (All [tabS P b n D, inC w] wr)) (fun iv _ => 1026 - (intOf iv).toNat)
  case atStart => exact ⟨1, 0 + 1, _, rfl, by omega, by omega, R2, A2⟩
  case round =>
    obtain ⟨i, n, D, rfl, ⟨hi0, hi1025⟩, hni, RR, RA⟩ := hrel
    clear R2 A2
    by_cases hlt : i ≤ 1025
    · skip
      by_cases hlen : i ≤ xs.length
      · obtain ⟨x, hx⟩ : ∃ x, xs[i - 1]? = some x := ⟨_, List.getElem?_eq_getElem (by omega)⟩
        obtain ⟨sb, sof, hso, x0, x1, x2, x3, x4⟩ := HS.out.at (RA.out.into (w0 := w) (by simp)) hx
        subst hso
        have hxn := HX.out x (List.mem_of_getElem? hx)
        obtain ⟨kd, at_, nmx, nu, tk⟩ := x
        simp only at x0 x1 x2 x3 x4 hxn
        obtain ⟨nl, hnl⟩ : ∃ nl : List UInt8, nmx = ⟨nl.toArray⟩ := ⟨nmx.data.toList, by simp⟩
        subst hnl
        have hi1 : ((i : Int) - 1) = ((i - 1 : Nat) : Int) := by omega
        clear hx
        by_cases heq : nl = nm
        · have heq' := heq.symm
          subst heq'
          clear x0 x1 x3 x4 hxn
          obtain ⟨n', hn'⟩ : ∃ n', n' = n := ⟨n, rfl⟩
          subst hn'
          obtain ⟨D', hD'⟩ : ∃ D', D' = D := ⟨D, rfl⟩
          subst hD'
          have hnn : n' ≤ i + 1 := by omega
          have AR := hid RA.out
          have RS := hid RR.out
          clear RA RR
          have hLeft := LeftS AR.out ⟨nm.toArray⟩ hnm
          simp only at hLeft
          by_cases hit : (i : Int) ≤ t
          · have hh : Maps.has D' (Lit.string nm) = true := by rw [RS.out.has]; simp [hit]
            rw [hh, RS.out.left hh] at hLeft
            clear hh
            by_cases hie : (i : Int) = t
            · subst hie
              have hone : (i : Int) - (i : Int) + 1 = 1 := by omega
              rw [hone] at hLeft
              clear hone
              have HL := hid hLeft
              clear hLeft
              go_wp2_with fail
              refine HL.out.mono ?_
              rintro e w5 ⟨rfl, rfl⟩
              clear HL
              go_wp2_with fail
              refine (TickS AR.out (by omega)).mono ?_
              rintro e w6 ⟨v6, ss, D6, rfl, hT, hA6⟩
              have hssl : ss.length ≤ 1048576 := by
                have h1 := hT.size
                have h2 := AR.out.1.2.1.2.size_le
                simp at h1
                omega
              obtain ⟨NX, hmem⟩ := RS.out.tick hT
              have hcount := told_count (nm := nm) hT
              clear hT
              have hLl : (ss.mergeSort fun x y => decide (x ≤ y)).length ≤ 1048576 := by simpa using hssl
              generalize (ss.mergeSort fun x y => decide (x ≤ y)) = L at *
              have A6 := hid hA6
              obtain ⟨oa, oc, hoe⟩ := owns_form (hA6.1.2.1 : w6.ownsRow 0 9 1 v6 (L.map encStr).length (L.map encStr))
              rw [List.length_map] at hoe
              subst hoe
              clear hA6
              have NX := hid NX
              have HM := hid hmem
              have HCN := hid hcount
              clear hmem hcount
              go_wp2
              go_loopw [14, 100] (fun tv kv wr => ∃ k : Nat, k ≤ L.length ∧ kv = .int .i64 (k : Int) ∧ tv = .int .i64 (((L.take k).count nm : Nat) : Int) ∧ wr = w6) (fun _ kv _ => L.length - (intOf kv).toNat)
              case atStart => exact ⟨0, by omega, rfl, by simp, rfl⟩
              case round =>
                obtain ⟨k, hk, rfl, rfl, rfl⟩ := hrel
                by_cases hkl : k < L.length
                · obtain ⟨x, hx⟩ : ∃ x, L[k]? = some x := ⟨_, List.getElem?_eq_getElem hkl⟩
                  obtain ⟨go, hgo, hcx, _⟩ := owns_at (k := k) (u := encStr x) (A6.out.1.2.1) (by rw [List.getElem?_map, hx]; rfl)
                  subst hgo
                  have hct := count_take hx nm
                  have hcl : (L.take k).count nm ≤ 1048576 := Nat.le_trans List.count_le_length (by simp; omega)
                  by_cases hxe : x = nm
                  · have hxe' := hxe.symm
                    subst hxe'
                    rw [if_pos (by simp)] at hct
                    have HCT := hid hct
                    clear hct hx
                    go_wp2
                    go_roundw
                    case rel => exact ⟨k + 1, by omega, by go_num, by rw [HCT.out]; go_num, by first | rfl | trivial⟩
                    case measure => simp [intOf]; omega
                  · rw [if_neg (by simpa using hxe)] at hct
                    have HCT := hid hct
                    have hne : ¬ (⟨x.toArray⟩ : ByteArray) = ⟨nm.toArray⟩ := fun e => hxe (by simpa using e)
                    have hb1 : (x == nm) = false := by simpa using hxe
                    have hb2 : decide (x = nm) = false := decide_eq_false hxe
                    clear hct hx
                    go_wp2
                    go_roundw
                    case rel => exact ⟨k + 1, by omega, by go_num, by rw [HCT.out]; simp, by first | rfl | trivial⟩
                    case measure => simp [intOf]; omega
                · have hLn : (L.take k).count nm = 1 := by
                    rw [List.take_of_length_le (by omega), HCN.out]
                    exact if_pos (by have := HM.out.2 (by simp); simpa using this)
                  rw [hLn]
                  clear hLn
                  go_wp2
                  go_roundw
                  case rel => exact ⟨i + 1, n', D6, by go_num, by omega, by omega, NX, hid A6.out.tail⟩
                  case measure => simp [intOf]; omega
            · have hne2 : ¬ (i : Int) = t := hie
              have HL := hid hLeft
              clear hLeft
              go_wp2_with fail
              refine HL.out.mono ?_
              rintro e w5 ⟨rfl, rfl⟩
              clear HL
              go_wp2_with fail
              refine (TickS AR.out (by omega)).mono ?_
              rintro e w6 ⟨v6, ss, D6, rfl, hT, hA6⟩
              have hssl : ss.length ≤ 1048576 := by
                have h1 := hT.size
                have h2 := AR.out.1.2.1.2.size_le
                simp at h1
                omega
              obtain ⟨NX, hmem⟩ := RS.out.tick hT
              have hcount := told_count (nm := nm) hT
              clear hT
              have hLl : (ss.mergeSort fun x y => decide (x ≤ y)).length ≤ 1048576 := by simpa using hssl
              generalize (ss.mergeSort fun x y => decide (x ≤ y)) = L at *
              have A6 := hid hA6
              obtain ⟨oa, oc, hoe⟩ := owns_form (hA6.1.2.1 : w6.ownsRow 0 9 1 v6 (L.map encStr).length (L.map encStr))
              rw [List.length_map] at hoe
              subst hoe
              clear hA6
              have NX := hid NX
              have HM := hid hmem
              have HCN := hid hcount
              clear hmem hcount
              go_wp2
              go_loopw [14, 100] (fun tv kv wr => ∃ k : Nat, k ≤ L.length ∧ kv = .int .i64 (k : Int) ∧ tv = .int .i64 (((L.take k).count nm : Nat) : Int) ∧ wr = w6) (fun _ kv _ => L.length - (intOf kv).toNat)
              case atStart => exact ⟨0, by omega, rfl, by simp, rfl⟩
              case round =>
                obtain ⟨k, hk, rfl, rfl, rfl⟩ := hrel
                by_cases hkl : k < L.length
                · obtain ⟨x, hx⟩ : ∃ x, L[k]? = some x := ⟨_, List.getElem?_eq_getElem hkl⟩
                  obtain ⟨go, hgo, hcx, _⟩ := owns_at (k := k) (u := encStr x) (A6.out.1.2.1) (by rw [List.getElem?_map, hx]; rfl)
                  subst hgo
                  have hct := count_take hx nm
                  have hcl : (L.take k).count nm ≤ 1048576 := Nat.le_trans List.count_le_length (by simp; omega)
                  by_cases hxe : x = nm
                  · have hxe' := hxe.symm
                    subst hxe'
                    rw [if_pos (by simp)] at hct
                    have HCT := hid hct
                    clear hct hx
                    go_wp2
                    go_roundw
                    case rel => exact ⟨k + 1, by omega, by go_num, by rw [HCT.out]; go_num, by first | rfl | trivial⟩
                    case measure => simp [intOf]; omega
                  · rw [if_neg (by simpa using hxe)] at hct
                    have HCT := hid hct
                    have hne : ¬ (⟨x.toArray⟩ : ByteArray) = ⟨nm.toArray⟩ := fun e => hxe (by simpa using e)
                    have hb1 : (x == nm) = false := by simpa using hxe
                    have hb2 : decide (x = nm) = false := decide_eq_false hxe
                    clear hct hx
                    go_wp2
                    go_roundw
                    case rel => exact ⟨k + 1, by omega, by go_num, by rw [HCT.out]; simp, by first | rfl | trivial⟩
                    case measure => simp [intOf]; omega
                · have hLn : (L.take k).count nm = 0 := by
                    rw [List.take_of_length_le (by omega), HCN.out]
                    exact if_neg (fun e => hie (HM.out.1 (List.mem_map.2 ⟨nm, e, rfl⟩)).2)
                  rw [hLn]
                  clear hLn
                  go_wp2
                  go_roundw
                  case rel => exact ⟨i + 1, n', D6, by go_num, by omega, by omega, NX, hid A6.out.tail⟩
                  case measure => simp [intOf]; omega
          · have hh : Maps.has D' (Lit.string nm) = false := by rw [RS.out.has]; simp [hit]
            rw [hh] at hLeft
            clear hh
            generalize leftD _ _ = ll at hLeft
            have hne2 : ¬ (i : Int) = t := by omega
            have HL := hid hLeft
            clear hLeft
            go_wp2_with fail
            refine HL.out.mono ?_
            rintro e w5 ⟨rfl, rfl⟩
            clear HL
            go_wp2_with fail
            refine (TickS AR.out (by omega)).mono ?_
            rintro e w6 ⟨v6, ss, D6, rfl, hT, hA6⟩
            have hssl : ss.length ≤ 1048576 := by
              have h1 := hT.size
              have h2 := AR.out.1.2.1.2.size_le
              simp at h1
              omega
            obtain ⟨NX, hmem⟩ := RS.out.tick hT
            have hcount := told_count (nm := nm) hT
            clear hT
            have hLl : (ss.mergeSort fun x y => decide (x ≤ y)).length ≤ 1048576 := by simpa using hssl
            generalize (ss.mergeSort fun x y => decide (x ≤ y)) = L at *
            have A6 := hid hA6
            obtain ⟨oa, oc, hoe⟩ := owns_form (hA6.1.2.1 : w6.ownsRow 0 9 1 v6 (L.map encStr).length (L.map encStr))
            rw [List.length_map] at hoe
            subst hoe
            clear hA6
            have NX := hid NX
            have HM := hid hmem
            have HCN := hid hcount
            clear hmem hcount
            go_wp2
            go_loopw [14, 100] (fun tv kv wr => ∃ k : Nat, k ≤ L.length ∧ kv = .int .i64 (k : Int) ∧ tv = .int .i64 (((L.take k).count nm : Nat) : Int) ∧ wr = w6) (fun _ kv _ => L.length - (intOf kv).toNat)
            case atStart => exact ⟨0, by omega, rfl, by simp, rfl⟩
            case round =>
              obtain ⟨k, hk, rfl, rfl, rfl⟩ := hrel
              by_cases hkl : k < L.length
              · obtain ⟨x, hx⟩ : ∃ x, L[k]? = some x := ⟨_, List.getElem?_eq_getElem hkl⟩
                obtain ⟨go, hgo, hcx, _⟩ := owns_at (k := k) (u := encStr x) (A6.out.1.2.1) (by rw [List.getElem?_map, hx]; rfl)
                subst hgo
                have hct := count_take hx nm
                have hcl : (L.take k).count nm ≤ 1048576 := Nat.le_trans List.count_le_length (by simp; omega)
                by_cases hxe : x = nm
                · have hxe' := hxe.symm
                  subst hxe'
                  rw [if_pos (by simp)] at hct
                  have HCT := hid hct
                  clear hct hx
                  go_wp2
                  go_roundw
                  case rel => exact ⟨k + 1, by omega, by go_num, by rw [HCT.out]; go_num, by first | rfl | trivial⟩
                  case measure => simp [intOf]; omega
                · rw [if_neg (by simpa using hxe)] at hct
                  have HCT := hid hct
                  have hne : ¬ (⟨x.toArray⟩ : ByteArray) = ⟨nm.toArray⟩ := fun e => hxe (by simpa using e)
                  have hb1 : (x == nm) = false := by simpa using hxe
                  have hb2 : decide (x = nm) = false := decide_eq_false hxe
                  clear hct hx
                  go_wp2
                  go_roundw
                  case rel => exact ⟨k + 1, by omega, by go_num, by rw [HCT.out]; simp, by first | rfl | trivial⟩
                  case measure => simp [intOf]; omega
              · have hLn : (L.take k).count nm = 0 := by
                  rw [List.take_of_length_le (by omega), HCN.out]
                  exact if_neg (fun e => hne2 (HM.out.1 (List.mem_map.2 ⟨nm, e, rfl⟩)).2)
                rw [hLn]
                clear hLn
                go_wp2
                go_roundw
                case rel => exact ⟨i + 1, n', D6, by go_num, by omega, by omega, NX, hid A6.out.tail⟩
                case measure => simp [intOf]; omega
        · have hkne : Lit.string nm ≠ Lit.string (⟨nl.toArray⟩ : ByteArray).data.toList := fun e => heq (by
            injection e with e
            simpa using e.symm)
          have hb3 : (nl == nm) = false := by simpa using heq
          have hb4 : decide (nl = nm) = false := decide_eq_false heq
          have HKN := hid hkne
          have PA := hid (RA.out.addBlk (Ac.cells ⟨kd, at_, ⟨nl.toArray⟩, nu, tk⟩) 40)
          obtain ⟨cx0, _⟩ := blk_cell PA.out (g := wr.heap.size) (t := 40) (j := 0) (by simp) (rfl : (Ac.cells ⟨kd, at_, ⟨nl.toArray⟩, nu, tk⟩)[0]? = some (.int .i64 kd))
          obtain ⟨cx2, _⟩ := blk_cell PA.out (g := wr.heap.size) (t := 40) (j := 2) (by simp) (rfl : (Ac.cells ⟨kd, at_, ⟨nl.toArray⟩, nu, tk⟩)[2]? = some (.string ⟨nl.toArray⟩))
          obtain ⟨cx4, _⟩ := blk_cell PA.out (g := wr.heap.size) (t := 40) (j := 4) (by simp) (rfl : (Ac.cells ⟨kd, at_, ⟨nl.toArray⟩, nu, tk⟩)[4]? = some (.int .i64 tk))
          simp only [Ac.cells] at cx0 cx2 cx4 PA
          clear hkne
          by_cases hmod : kd.tmod 2 = 0
          · go_wp2_with fail
            refine (Arm_other PA.out.swap ⟨nl.toArray⟩ hxn tk (by omega) HKN.out).mono ?_
            rintro e w4 ⟨v4, n', D', rfl, hn', h1', h2', hA4⟩
            have AR := hid hA4.dropMid
            have RS := hid (RR.out.same h1' h2')
            have hnn : n' ≤ i + 1 := by omega
            clear h1' h2' hA4 RA RR hn' cx0 cx2 cx4
            have hLeft := LeftS AR.out ⟨nm.toArray⟩ hnm
            simp only at hLeft
            by_cases hit : (i : Int) ≤ t
            · have hh : Maps.has D' (Lit.string nm) = true := by rw [RS.out.has]; simp [hit]
              rw [hh, RS.out.left hh] at hLeft
              clear hh
              by_cases hie : (i : Int) = t
              · subst hie
                have hone : (i : Int) - (i : Int) + 1 = 1 := by omega
                rw [hone] at hLeft
                clear hone
                have HL := hid hLeft
                clear hLeft
                go_wp2_with fail
                refine HL.out.mono ?_
                rintro e w5 ⟨rfl, rfl⟩
                clear HL
                go_wp2_with fail
                refine (TickS AR.out (by omega)).mono ?_
                rintro e w6 ⟨v6, ss, D6, rfl, hT, hA6⟩
                have hssl : ss.length ≤ 1048576 := by
                  have h1 := hT.size
                  have h2 := AR.out.1.2.1.2.size_le
                  simp at h1
                  omega
                obtain ⟨NX, hmem⟩ := RS.out.tick hT
                have hcount := told_count (nm := nm) hT
                clear hT
                have hLl : (ss.mergeSort fun x y => decide (x ≤ y)).length ≤ 1048576 := by simpa using hssl
                generalize (ss.mergeSort fun x y => decide (x ≤ y)) = L at *
                have A6 := hid hA6
                obtain ⟨oa, oc, hoe⟩ := owns_form (hA6.1.2.1 : w6.ownsRow 0 9 1 v6 (L.map encStr).length (L.map encStr))
                rw [List.length_map] at hoe
                subst hoe
                clear hA6
                have NX := hid NX
                have HM := hid hmem
                have HCN := hid hcount
                clear hmem hcount
                go_wp2
                go_loopw [14, 100] (fun tv kv wr => ∃ k : Nat, k ≤ L.length ∧ kv = .int .i64 (k : Int) ∧ tv = .int .i64 (((L.take k).count nm : Nat) : Int) ∧ wr = w6) (fun _ kv _ => L.length - (intOf kv).toNat)
                case atStart => exact ⟨0, by omega, rfl, by simp, rfl⟩
                case round =>
                  obtain ⟨k, hk, rfl, rfl, rfl⟩ := hrel
                  by_cases hkl : k < L.length
                  · obtain ⟨x, hx⟩ : ∃ x, L[k]? = some x := ⟨_, List.getElem?_eq_getElem hkl⟩
                    obtain ⟨go, hgo, hcx, _⟩ := owns_at (k := k) (u := encStr x) (A6.out.1.2.1) (by rw [List.getElem?_map, hx]; rfl)
                    subst hgo
                    have hct := count_take hx nm
                    have hcl : (L.take k).count nm ≤ 1048576 := Nat.le_trans List.count_le_length (by simp; omega)
                    by_cases hxe : x = nm
                    · have hxe' := hxe.symm
                      subst hxe'
                      rw [if_pos (by simp)] at hct
                      have HCT := hid hct
                      clear hct hx
                      go_wp2
                      go_roundw
                      case rel => exact ⟨k + 1, by omega, by go_num, by rw [HCT.out]; go_num, by first | rfl | trivial⟩
                      case measure => simp [intOf]; omega
                    · rw [if_neg (by simpa using hxe)] at hct
                      have HCT := hid hct
                      have hne : ¬ (⟨x.toArray⟩ : ByteArray) = ⟨nm.toArray⟩ := fun e => hxe (by simpa using e)
                      have hb1 : (x == nm) = false := by simpa using hxe
                      have hb2 : decide (x = nm) = false := decide_eq_false hxe
                      clear hct hx
                      go_wp2
                      go_roundw
                      case rel => exact ⟨k + 1, by omega, by go_num, by rw [HCT.out]; simp, by first | rfl | trivial⟩
                      case measure => simp [intOf]; omega
                  · have hLn : (L.take k).count nm = 1 := by
                      rw [List.take_of_length_le (by omega), HCN.out]
                      exact if_pos (by have := HM.out.2 (by simp); simpa using this)
                    rw [hLn]
                    clear hLn
                    go_wp2
                    go_roundw
                    case rel => exact ⟨i + 1, n', D6, by go_num, by omega, by omega, NX, hid A6.out.tail⟩
                    case measure => simp [intOf]; omega
              · have hne2 : ¬ (i : Int) = t := hie
                have HL := hid hLeft
                clear hLeft
                go_wp2_with fail
                refine HL.out.mono ?_
                rintro e w5 ⟨rfl, rfl⟩
                clear HL
                go_wp2_with fail
                refine (TickS AR.out (by omega)).mono ?_
                rintro e w6 ⟨v6, ss, D6, rfl, hT, hA6⟩
                have hssl : ss.length ≤ 1048576 := by
                  have h1 := hT.size
                  have h2 := AR.out.1.2.1.2.size_le
                  simp at h1
                  omega
                obtain ⟨NX, hmem⟩ := RS.out.tick hT
                have hcount := told_count (nm := nm) hT
                clear hT
                have hLl : (ss.mergeSort fun x y => decide (x ≤ y)).length ≤ 1048576 := by simpa using hssl
                generalize (ss.mergeSort fun x y => decide (x ≤ y)) = L at *
                have A6 := hid hA6
                obtain ⟨oa, oc, hoe⟩ := owns_form (hA6.1.2.1 : w6.ownsRow 0 9 1 v6 (L.map encStr).length (L.map encStr))
                rw [List.length_map] at hoe
                subst hoe
                clear hA6
                have NX := hid NX
                have HM := hid hmem
                have HCN := hid hcount
                clear hmem hcount
                go_wp2
                go_loopw [14, 100] (fun tv kv wr => ∃ k : Nat, k ≤ L.length ∧ kv = .int .i64 (k : Int) ∧ tv = .int .i64 (((L.take k).count nm : Nat) : Int) ∧ wr = w6) (fun _ kv _ => L.length - (intOf kv).toNat)
                case atStart => exact ⟨0, by omega, rfl, by simp, rfl⟩
                case round =>
                  obtain ⟨k, hk, rfl, rfl, rfl⟩ := hrel
                  by_cases hkl : k < L.length
                  · obtain ⟨x, hx⟩ : ∃ x, L[k]? = some x := ⟨_, List.getElem?_eq_getElem hkl⟩
                    obtain ⟨go, hgo, hcx, _⟩ := owns_at (k := k) (u := encStr x) (A6.out.1.2.1) (by rw [List.getElem?_map, hx]; rfl)
                    subst hgo
                    have hct := count_take hx nm
                    have hcl : (L.take k).count nm ≤ 1048576 := Nat.le_trans List.count_le_length (by simp; omega)
                    by_cases hxe : x = nm
                    · have hxe' := hxe.symm
                      subst hxe'
                      rw [if_pos (by simp)] at hct
                      have HCT := hid hct
                      clear hct hx
                      go_wp2
                      go_roundw
                      case rel => exact ⟨k + 1, by omega, by go_num, by rw [HCT.out]; go_num, by first | rfl | trivial⟩
                      case measure => simp [intOf]; omega
                    · rw [if_neg (by simpa using hxe)] at hct
                      have HCT := hid hct
                      have hne : ¬ (⟨x.toArray⟩ : ByteArray) = ⟨nm.toArray⟩ := fun e => hxe (by simpa using e)
                      have hb1 : (x == nm) = false := by simpa using hxe
                      have hb2 : decide (x = nm) = false := decide_eq_false hxe
                      clear hct hx
                      go_wp2
                      go_roundw
                      case rel => exact ⟨k + 1, by omega, by go_num, by rw [HCT.out]; simp, by first | rfl | trivial⟩
                      case measure => simp [intOf]; omega
                  · have hLn : (L.take k).count nm = 0 := by
                      rw [List.take_of_length_le (by omega), HCN.out]
                      exact if_neg (fun e => hie (HM.out.1 (List.mem_map.2 ⟨nm, e, rfl⟩)).2)
                    rw [hLn]
                    clear hLn
                    go_wp2
                    go_roundw
                    case rel => exact ⟨i + 1, n', D6, by go_num, by omega, by omega, NX, hid A6.out.tail⟩
                    case measure => simp [intOf]; omega
            · have hh : Maps.has D' (Lit.string nm) = false := by rw [RS.out.has]; simp [hit]
              rw [hh] at hLeft
              clear hh
              generalize leftD _ _ = ll at hLeft
              have hne2 : ¬ (i : Int) = t := by omega
              have HL := hid hLeft
              clear hLeft
              go_wp2_with fail
              refine HL.out.mono ?_
              rintro e w5 ⟨rfl, rfl⟩
              clear HL
              go_wp2_with fail
              refine (TickS AR.out (by omega)).mono ?_
              rintro e w6 ⟨v6, ss, D6, rfl, hT, hA6⟩
              have hssl : ss.length ≤ 1048576 := by
                have h1 := hT.size
                have h2 := AR.out.1.2.1.2.size_le
                simp at h1
                omega
              obtain ⟨NX, hmem⟩ := RS.out.tick hT
              have hcount := told_count (nm := nm) hT
              clear hT
              have hLl : (ss.mergeSort fun x y => decide (x ≤ y)).length ≤ 1048576 := by simpa using hssl
              generalize (ss.mergeSort fun x y => decide (x ≤ y)) = L at *
              have A6 := hid hA6
              obtain ⟨oa, oc, hoe⟩ := owns_form (hA6.1.2.1 : w6.ownsRow 0 9 1 v6 (L.map encStr).length (L.map encStr))
              rw [List.length_map] at hoe
              subst hoe
              clear hA6
              have NX := hid NX
              have HM := hid hmem
              have HCN := hid hcount
              clear hmem hcount
              go_wp2
              go_loopw [14, 100] (fun tv kv wr => ∃ k : Nat, k ≤ L.length ∧ kv = .int .i64 (k : Int) ∧ tv = .int .i64 (((L.take k).count nm : Nat) : Int) ∧ wr = w6) (fun _ kv _ => L.length - (intOf kv).toNat)
              case atStart => exact ⟨0, by omega, rfl, by simp, rfl⟩
              case round =>
                obtain ⟨k, hk, rfl, rfl, rfl⟩ := hrel
                by_cases hkl : k < L.length
                · obtain ⟨x, hx⟩ : ∃ x, L[k]? = some x := ⟨_, List.getElem?_eq_getElem hkl⟩
                  obtain ⟨go, hgo, hcx, _⟩ := owns_at (k := k) (u := encStr x) (A6.out.1.2.1) (by rw [List.getElem?_map, hx]; rfl)
                  subst hgo
                  have hct := count_take hx nm
                  have hcl : (L.take k).count nm ≤ 1048576 := Nat.le_trans List.count_le_length (by simp; omega)
                  by_cases hxe : x = nm
                  · have hxe' := hxe.symm
                    subst hxe'
                    rw [if_pos (by simp)] at hct
                    have HCT := hid hct
                    clear hct hx
                    go_wp2
                    go_roundw
                    case rel => exact ⟨k + 1, by omega, by go_num, by rw [HCT.out]; go_num, by first | rfl | trivial⟩
                    case measure => simp [intOf]; omega
                  · rw [if_neg (by simpa using hxe)] at hct
                    have HCT := hid hct
                    have hne : ¬ (⟨x.toArray⟩ : ByteArray) = ⟨nm.toArray⟩ := fun e => hxe (by simpa using e)
                    have hb1 : (x == nm) = false := by simpa using hxe
                    have hb2 : decide (x = nm) = false := decide_eq_false hxe
                    clear hct hx
                    go_wp2
                    go_roundw
                    case rel => exact ⟨k + 1, by omega, by go_num, by rw [HCT.out]; simp, by first | rfl | trivial⟩
                    case measure => simp [intOf]; omega
                · have hLn : (L.take k).count nm = 0 := by
                    rw [List.take_of_length_le (by omega), HCN.out]
                    exact if_neg (fun e => hne2 (HM.out.1 (List.mem_map.2 ⟨nm, e, rfl⟩)).2)
                  rw [hLn]
                  clear hLn
                  go_wp2
                  go_roundw
                  case rel => exact ⟨i + 1, n', D6, by go_num, by omega, by omega, NX, hid A6.out.tail⟩
                  case measure => simp [intOf]; omega
          · go_wp2_with fail
            refine (Cancel_other PA.out.swap ⟨nl.toArray⟩ hxn HKN.out).mono ?_
            rintro e w4 ⟨v4, n', D', rfl, hn', h1', h2', hA4⟩
            have AR := hid hA4.dropMid
            have RS := hid (RR.out.same h1' h2')
            have hnn : n' ≤ i + 1 := by omega
            clear h1' h2' hA4 RA RR hn' cx0 cx2 cx4
            have hLeft := LeftS AR.out ⟨nm.toArray⟩ hnm
            simp only at hLeft
            by_cases hit : (i : Int) ≤ t
            · have hh : Maps.has D' (Lit.string nm) = true := by rw [RS.out.has]; simp [hit]
              rw [hh, RS.out.left hh] at hLeft
              clear hh
              by_cases hie : (i : Int) = t
              · subst hie
                have hone : (i : Int) - (i : Int) + 1 = 1 := by omega
                rw [hone] at hLeft
                clear hone
                have HL := hid hLeft
                clear hLeft
                go_wp2_with fail
                refine HL.out.mono ?_
                rintro e w5 ⟨rfl, rfl⟩
                clear HL
                go_wp2_with fail
                refine (TickS AR.out (by omega)).mono ?_
                rintro e w6 ⟨v6, ss, D6, rfl, hT, hA6⟩
                have hssl : ss.length ≤ 1048576 := by
                  have h1 := hT.size
                  have h2 := AR.out.1.2.1.2.size_le
                  simp at h1
                  omega
                obtain ⟨NX, hmem⟩ := RS.out.tick hT
                have hcount := told_count (nm := nm) hT
                clear hT
                have hLl : (ss.mergeSort fun x y => decide (x ≤ y)).length ≤ 1048576 := by simpa using hssl
                generalize (ss.mergeSort fun x y => decide (x ≤ y)) = L at *
                have A6 := hid hA6
                obtain ⟨oa, oc, hoe⟩ := owns_form (hA6.1.2.1 : w6.ownsRow 0 9 1 v6 (L.map encStr).length (L.map encStr))
                rw [List.length_map] at hoe
                subst hoe
                clear hA6
                have NX := hid NX
                have HM := hid hmem
                have HCN := hid hcount
                clear hmem hcount
                go_wp2
                go_loopw [14, 100] (fun tv kv wr => ∃ k : Nat, k ≤ L.length ∧ kv = .int .i64 (k : Int) ∧ tv = .int .i64 (((L.take k).count nm : Nat) : Int) ∧ wr = w6) (fun _ kv _ => L.length - (intOf kv).toNat)
                case atStart => exact ⟨0, by omega, rfl, by simp, rfl⟩
                case round =>
                  obtain ⟨k, hk, rfl, rfl, rfl⟩ := hrel
                  by_cases hkl : k < L.length
                  · obtain ⟨x, hx⟩ : ∃ x, L[k]? = some x := ⟨_, List.getElem?_eq_getElem hkl⟩
                    obtain ⟨go, hgo, hcx, _⟩ := owns_at (k := k) (u := encStr x) (A6.out.1.2.1) (by rw [List.getElem?_map, hx]; rfl)
                    subst hgo
                    have hct := count_take hx nm
                    have hcl : (L.take k).count nm ≤ 1048576 := Nat.le_trans List.count_le_length (by simp; omega)
                    by_cases hxe : x = nm
                    · have hxe' := hxe.symm
                      subst hxe'
                      rw [if_pos (by simp)] at hct
                      have HCT := hid hct
                      clear hct hx
                      go_wp2
                      go_roundw
                      case rel => exact ⟨k + 1, by omega, by go_num, by rw [HCT.out]; go_num, by first | rfl | trivial⟩
                      case measure => simp [intOf]; omega
                    · rw [if_neg (by simpa using hxe)] at hct
                      have HCT := hid hct
                      have hne : ¬ (⟨x.toArray⟩ : ByteArray) = ⟨nm.toArray⟩ := fun e => hxe (by simpa using e)
                      have hb1 : (x == nm) = false := by simpa using hxe
                      have hb2 : decide (x = nm) = false := decide_eq_false hxe
                      clear hct hx
                      go_wp2
                      go_roundw
                      case rel => exact ⟨k + 1, by omega, by go_num, by rw [HCT.out]; simp, by first | rfl | trivial⟩
                      case measure => simp [intOf]; omega
                  · have hLn : (L.take k).count nm = 1 := by
                      rw [List.take_of_length_le (by omega), HCN.out]
                      exact if_pos (by have := HM.out.2 (by simp); simpa using this)
                    rw [hLn]
                    clear hLn
                    go_wp2
                    go_roundw
                    case rel => exact ⟨i + 1, n', D6, by go_num, by omega, by omega, NX, hid A6.out.tail⟩
                    case measure => simp [intOf]; omega
              · have hne2 : ¬ (i : Int) = t := hie
                have HL := hid hLeft
                clear hLeft
                go_wp2_with fail
                refine HL.out.mono ?_
                rintro e w5 ⟨rfl, rfl⟩
                clear HL
                go_wp2_with fail
                refine (TickS AR.out (by omega)).mono ?_
                rintro e w6 ⟨v6, ss, D6, rfl, hT, hA6⟩
                have hssl : ss.length ≤ 1048576 := by
                  have h1 := hT.size
                  have h2 := AR.out.1.2.1.2.size_le
                  simp at h1
                  omega
                obtain ⟨NX, hmem⟩ := RS.out.tick hT
                have hcount := told_count (nm := nm) hT
                clear hT
                have hLl : (ss.mergeSort fun x y => decide (x ≤ y)).length ≤ 1048576 := by simpa using hssl
                generalize (ss.mergeSort fun x y => decide (x ≤ y)) = L at *
                have A6 := hid hA6
                obtain ⟨oa, oc, hoe⟩ := owns_form (hA6.1.2.1 : w6.ownsRow 0 9 1 v6 (L.map encStr).length (L.map encStr))
                rw [List.length_map] at hoe
                subst hoe
                clear hA6
                have NX := hid NX
                have HM := hid hmem
                have HCN := hid hcount
                clear hmem hcount
                go_wp2
                go_loopw [14, 100] (fun tv kv wr => ∃ k : Nat, k ≤ L.length ∧ kv = .int .i64 (k : Int) ∧ tv = .int .i64 (((L.take k).count nm : Nat) : Int) ∧ wr = w6) (fun _ kv _ => L.length - (intOf kv).toNat)
                case atStart => exact ⟨0, by omega, rfl, by simp, rfl⟩
                case round =>
                  obtain ⟨k, hk, rfl, rfl, rfl⟩ := hrel
                  by_cases hkl : k < L.length
                  · obtain ⟨x, hx⟩ : ∃ x, L[k]? = some x := ⟨_, List.getElem?_eq_getElem hkl⟩
                    obtain ⟨go, hgo, hcx, _⟩ := owns_at (k := k) (u := encStr x) (A6.out.1.2.1) (by rw [List.getElem?_map, hx]; rfl)
                    subst hgo
                    have hct := count_take hx nm
                    have hcl : (L.take k).count nm ≤ 1048576 := Nat.le_trans List.count_le_length (by simp; omega)
                    by_cases hxe : x = nm
                    · have hxe' := hxe.symm
                      subst hxe'
                      rw [if_pos (by simp)] at hct
                      have HCT := hid hct
                      clear hct hx
                      go_wp2
                      go_roundw
                      case rel => exact ⟨k + 1, by omega, by go_num, by rw [HCT.out]; go_num, by first | rfl | trivial⟩
                      case measure => simp [intOf]; omega
                    · rw [if_neg (by simpa using hxe)] at hct
                      have HCT := hid hct
                      have hne : ¬ (⟨x.toArray⟩ : ByteArray) = ⟨nm.toArray⟩ := fun e => hxe (by simpa using e)
                      have hb1 : (x == nm) = false := by simpa using hxe
                      have hb2 : decide (x = nm) = false := decide_eq_false hxe
                      clear hct hx
                      go_wp2
                      go_roundw
                      case rel => exact ⟨k + 1, by omega, by go_num, by rw [HCT.out]; simp, by first | rfl | trivial⟩
                      case measure => simp [intOf]; omega
                  · have hLn : (L.take k).count nm = 0 := by
                      rw [List.take_of_length_le (by omega), HCN.out]
                      exact if_neg (fun e => hie (HM.out.1 (List.mem_map.2 ⟨nm, e, rfl⟩)).2)
                    rw [hLn]
                    clear hLn
                    go_wp2
                    go_roundw
                    case rel => exact ⟨i + 1, n', D6, by go_num, by omega, by omega, NX, hid A6.out.tail⟩
                    case measure => simp [intOf]; omega
            · have hh : Maps.has D' (Lit.string nm) = false := by rw [RS.out.has]; simp [hit]
              rw [hh] at hLeft
              clear hh
              generalize leftD _ _ = ll at hLeft
              have hne2 : ¬ (i : Int) = t := by omega
              have HL := hid hLeft
              clear hLeft
              go_wp2_with fail
              refine HL.out.mono ?_
              rintro e w5 ⟨rfl, rfl⟩
              clear HL
              go_wp2_with fail
              refine (TickS AR.out (by omega)).mono ?_
              rintro e w6 ⟨v6, ss, D6, rfl, hT, hA6⟩
              have hssl : ss.length ≤ 1048576 := by
                have h1 := hT.size
                have h2 := AR.out.1.2.1.2.size_le
                simp at h1
                omega
              obtain ⟨NX, hmem⟩ := RS.out.tick hT
              have hcount := told_count (nm := nm) hT
              clear hT
              have hLl : (ss.mergeSort fun x y => decide (x ≤ y)).length ≤ 1048576 := by simpa using hssl
              generalize (ss.mergeSort fun x y => decide (x ≤ y)) = L at *
              have A6 := hid hA6
              obtain ⟨oa, oc, hoe⟩ := owns_form (hA6.1.2.1 : w6.ownsRow 0 9 1 v6 (L.map encStr).length (L.map encStr))
              rw [List.length_map] at hoe
              subst hoe
              clear hA6
              have NX := hid NX
              have HM := hid hmem
              have HCN := hid hcount
              clear hmem hcount
              go_wp2
              go_loopw [14, 100] (fun tv kv wr => ∃ k : Nat, k ≤ L.length ∧ kv = .int .i64 (k : Int) ∧ tv = .int .i64 (((L.take k).count nm : Nat) : Int) ∧ wr = w6) (fun _ kv _ => L.length - (intOf kv).toNat)
              case atStart => exact ⟨0, by omega, rfl, by simp, rfl⟩
              case round =>
                obtain ⟨k, hk, rfl, rfl, rfl⟩ := hrel
                by_cases hkl : k < L.length
                · obtain ⟨x, hx⟩ : ∃ x, L[k]? = some x := ⟨_, List.getElem?_eq_getElem hkl⟩
                  obtain ⟨go, hgo, hcx, _⟩ := owns_at (k := k) (u := encStr x) (A6.out.1.2.1) (by rw [List.getElem?_map, hx]; rfl)
                  subst hgo
                  have hct := count_take hx nm
                  have hcl : (L.take k).count nm ≤ 1048576 := Nat.le_trans List.count_le_length (by simp; omega)
                  by_cases hxe : x = nm
                  · have hxe' := hxe.symm
                    subst hxe'
                    rw [if_pos (by simp)] at hct
                    have HCT := hid hct
                    clear hct hx
                    go_wp2
                    go_roundw
                    case rel => exact ⟨k + 1, by omega, by go_num, by rw [HCT.out]; go_num, by first | rfl | trivial⟩
                    case measure => simp [intOf]; omega
                  · rw [if_neg (by simpa using hxe)] at hct
                    have HCT := hid hct
                    have hne : ¬ (⟨x.toArray⟩ : ByteArray) = ⟨nm.toArray⟩ := fun e => hxe (by simpa using e)
                    have hb1 : (x == nm) = false := by simpa using hxe
                    have hb2 : decide (x = nm) = false := decide_eq_false hxe
                    clear hct hx
                    go_wp2
                    go_roundw
                    case rel => exact ⟨k + 1, by omega, by go_num, by rw [HCT.out]; simp, by first | rfl | trivial⟩
                    case measure => simp [intOf]; omega
                · have hLn : (L.take k).count nm = 0 := by
                    rw [List.take_of_length_le (by omega), HCN.out]
                    exact if_neg (fun e => hne2 (HM.out.1 (List.mem_map.2 ⟨nm, e, rfl⟩)).2)
                  rw [hLn]
                  clear hLn
                  go_wp2
                  go_roundw
                  case rel => exact ⟨i + 1, n', D6, by go_num, by omega, by omega, NX, hid A6.out.tail⟩
                  case measure => simp [intOf]; omega
      · skip
        obtain ⟨n', hn'⟩ : ∃ n', n' = n := ⟨n, rfl⟩
        subst hn'
        obtain ⟨D', hD'⟩ : ∃ D', D' = D := ⟨D, rfl⟩
        subst hD'
        have hnn : n' ≤ i + 1 := by omega
        have AR := hid RA.out
        have RS := hid RR.out
        clear RA RR
        have hLeft := LeftS AR.out ⟨nm.toArray⟩ hnm
        simp only at hLeft
        by_cases hit : (i : Int) ≤ t
        · have hh : Maps.has D' (Lit.string nm) = true := by rw [RS.out.has]; simp [hit]
          rw [hh, RS.out.left hh] at hLeft
          clear hh
          by_cases hie : (i : Int) = t
          · subst hie
            have hone : (i : Int) - (i : Int) + 1 = 1 := by omega
            rw [hone] at hLeft
            clear hone
            have HL := hid hLeft
            clear hLeft
            go_wp2_with fail
            refine HL.out.mono ?_
            rintro e w5 ⟨rfl, rfl⟩
            clear HL
            go_wp2_with fail
            refine (TickS AR.out (by omega)).mono ?_
            rintro e w6 ⟨v6, ss, D6, rfl, hT, hA6⟩
            have hssl : ss.length ≤ 1048576 := by
              have h1 := hT.size
              have h2 := AR.out.1.2.1.2.size_le
              simp at h1
              omega
            obtain ⟨NX, hmem⟩ := RS.out.tick hT
            have hcount := told_count (nm := nm) hT
            clear hT
            have hLl : (ss.mergeSort fun x y => decide (x ≤ y)).length ≤ 1048576 := by simpa using hssl
            generalize (ss.mergeSort fun x y => decide (x ≤ y)) = L at *
            have A6 := hid hA6
            obtain ⟨oa, oc, hoe⟩ := owns_form (hA6.1.2.1 : w6.ownsRow 0 9 1 v6 (L.map encStr).length (L.map encStr))
            rw [List.length_map] at hoe
            subst hoe
            clear hA6
            have NX := hid NX
            have HM := hid hmem
            have HCN := hid hcount
            clear hmem hcount
            go_wp2
            go_loopw [14, 100] (fun tv kv wr => ∃ k : Nat, k ≤ L.length ∧ kv = .int .i64 (k : Int) ∧ tv = .int .i64 (((L.take k).count nm : Nat) : Int) ∧ wr = w6) (fun _ kv _ => L.length - (intOf kv).toNat)
            case atStart => exact ⟨0, by omega, rfl, by simp, rfl⟩
            case round =>
              obtain ⟨k, hk, rfl, rfl, rfl⟩ := hrel
              by_cases hkl : k < L.length
              · obtain ⟨x, hx⟩ : ∃ x, L[k]? = some x := ⟨_, List.getElem?_eq_getElem hkl⟩
                obtain ⟨go, hgo, hcx, _⟩ := owns_at (k := k) (u := encStr x) (A6.out.1.2.1) (by rw [List.getElem?_map, hx]; rfl)
                subst hgo
                have hct := count_take hx nm
                have hcl : (L.take k).count nm ≤ 1048576 := Nat.le_trans List.count_le_length (by simp; omega)
                by_cases hxe : x = nm
                · have hxe' := hxe.symm
                  subst hxe'
                  rw [if_pos (by simp)] at hct
                  have HCT := hid hct
                  clear hct hx
                  go_wp2
                  go_roundw
                  case rel => exact ⟨k + 1, by omega, by go_num, by rw [HCT.out]; go_num, by first | rfl | trivial⟩
                  case measure => simp [intOf]; omega
                · rw [if_neg (by simpa using hxe)] at hct
                  have HCT := hid hct
                  have hne : ¬ (⟨x.toArray⟩ : ByteArray) = ⟨nm.toArray⟩ := fun e => hxe (by simpa using e)
                  have hb1 : (x == nm) = false := by simpa using hxe
                  have hb2 : decide (x = nm) = false := decide_eq_false hxe
                  clear hct hx
                  go_wp2
                  go_roundw
                  case rel => exact ⟨k + 1, by omega, by go_num, by rw [HCT.out]; simp, by first | rfl | trivial⟩
                  case measure => simp [intOf]; omega
              · have hLn : (L.take k).count nm = 1 := by
                  rw [List.take_of_length_le (by omega), HCN.out]
                  exact if_pos (by have := HM.out.2 (by simp); simpa using this)
                rw [hLn]
                clear hLn
                go_wp2
                go_roundw
                case rel => exact ⟨i + 1, n', D6, by go_num, by omega, by omega, NX, hid A6.out.tail⟩
                case measure => simp [intOf]; omega
          · have hne2 : ¬ (i : Int) = t := hie
            have HL := hid hLeft
            clear hLeft
            go_wp2_with fail
            refine HL.out.mono ?_
            rintro e w5 ⟨rfl, rfl⟩
            clear HL
            go_wp2_with fail
            refine (TickS AR.out (by omega)).mono ?_
            rintro e w6 ⟨v6, ss, D6, rfl, hT, hA6⟩
            have hssl : ss.length ≤ 1048576 := by
              have h1 := hT.size
              have h2 := AR.out.1.2.1.2.size_le
              simp at h1
              omega
            obtain ⟨NX, hmem⟩ := RS.out.tick hT
            have hcount := told_count (nm := nm) hT
            clear hT
            have hLl : (ss.mergeSort fun x y => decide (x ≤ y)).length ≤ 1048576 := by simpa using hssl
            generalize (ss.mergeSort fun x y => decide (x ≤ y)) = L at *
            have A6 := hid hA6
            obtain ⟨oa, oc, hoe⟩ := owns_form (hA6.1.2.1 : w6.ownsRow 0 9 1 v6 (L.map encStr).length (L.map encStr))
            rw [List.length_map] at hoe
            subst hoe
            clear hA6
            have NX := hid NX
            have HM := hid hmem
            have HCN := hid hcount
            clear hmem hcount
            go_wp2
            go_loopw [14, 100] (fun tv kv wr => ∃ k : Nat, k ≤ L.length ∧ kv = .int .i64 (k : Int) ∧ tv = .int .i64 (((L.take k).count nm : Nat) : Int) ∧ wr = w6) (fun _ kv _ => L.length - (intOf kv).toNat)
            case atStart => exact ⟨0, by omega, rfl, by simp, rfl⟩
            case round =>
              obtain ⟨k, hk, rfl, rfl, rfl⟩ := hrel
              by_cases hkl : k < L.length
              · obtain ⟨x, hx⟩ : ∃ x, L[k]? = some x := ⟨_, List.getElem?_eq_getElem hkl⟩
                obtain ⟨go, hgo, hcx, _⟩ := owns_at (k := k) (u := encStr x) (A6.out.1.2.1) (by rw [List.getElem?_map, hx]; rfl)
                subst hgo
                have hct := count_take hx nm
                have hcl : (L.take k).count nm ≤ 1048576 := Nat.le_trans List.count_le_length (by simp; omega)
                by_cases hxe : x = nm
                · have hxe' := hxe.symm
                  subst hxe'
                  rw [if_pos (by simp)] at hct
                  have HCT := hid hct
                  clear hct hx
                  go_wp2
                  go_roundw
                  case rel => exact ⟨k + 1, by omega, by go_num, by rw [HCT.out]; go_num, by first | rfl | trivial⟩
                  case measure => simp [intOf]; omega
                · rw [if_neg (by simpa using hxe)] at hct
                  have HCT := hid hct
                  have hne : ¬ (⟨x.toArray⟩ : ByteArray) = ⟨nm.toArray⟩ := fun e => hxe (by simpa using e)
                  have hb1 : (x == nm) = false := by simpa using hxe
                  have hb2 : decide (x = nm) = false := decide_eq_false hxe
                  clear hct hx
                  go_wp2
                  go_roundw
                  case rel => exact ⟨k + 1, by omega, by go_num, by rw [HCT.out]; simp, by first | rfl | trivial⟩
                  case measure => simp [intOf]; omega
              · have hLn : (L.take k).count nm = 0 := by
                  rw [List.take_of_length_le (by omega), HCN.out]
                  exact if_neg (fun e => hie (HM.out.1 (List.mem_map.2 ⟨nm, e, rfl⟩)).2)
                rw [hLn]
                clear hLn
                go_wp2
                go_roundw
                case rel => exact ⟨i + 1, n', D6, by go_num, by omega, by omega, NX, hid A6.out.tail⟩
                case measure => simp [intOf]; omega
        · have hh : Maps.has D' (Lit.string nm) = false := by rw [RS.out.has]; simp [hit]
          rw [hh] at hLeft
          clear hh
          generalize leftD _ _ = ll at hLeft
          have hne2 : ¬ (i : Int) = t := by omega
          have HL := hid hLeft
          clear hLeft
          go_wp2_with fail
          refine HL.out.mono ?_
          rintro e w5 ⟨rfl, rfl⟩
          clear HL
          go_wp2_with fail
          refine (TickS AR.out (by omega)).mono ?_
          rintro e w6 ⟨v6, ss, D6, rfl, hT, hA6⟩
          have hssl : ss.length ≤ 1048576 := by
            have h1 := hT.size
            have h2 := AR.out.1.2.1.2.size_le
            simp at h1
            omega
          obtain ⟨NX, hmem⟩ := RS.out.tick hT
          have hcount := told_count (nm := nm) hT
          clear hT
          have hLl : (ss.mergeSort fun x y => decide (x ≤ y)).length ≤ 1048576 := by simpa using hssl
          generalize (ss.mergeSort fun x y => decide (x ≤ y)) = L at *
          have A6 := hid hA6
          obtain ⟨oa, oc, hoe⟩ := owns_form (hA6.1.2.1 : w6.ownsRow 0 9 1 v6 (L.map encStr).length (L.map encStr))
          rw [List.length_map] at hoe
          subst hoe
          clear hA6
          have NX := hid NX
          have HM := hid hmem
          have HCN := hid hcount
          clear hmem hcount
          go_wp2
          go_loopw [14, 100] (fun tv kv wr => ∃ k : Nat, k ≤ L.length ∧ kv = .int .i64 (k : Int) ∧ tv = .int .i64 (((L.take k).count nm : Nat) : Int) ∧ wr = w6) (fun _ kv _ => L.length - (intOf kv).toNat)
          case atStart => exact ⟨0, by omega, rfl, by simp, rfl⟩
          case round =>
            obtain ⟨k, hk, rfl, rfl, rfl⟩ := hrel
            by_cases hkl : k < L.length
            · obtain ⟨x, hx⟩ : ∃ x, L[k]? = some x := ⟨_, List.getElem?_eq_getElem hkl⟩
              obtain ⟨go, hgo, hcx, _⟩ := owns_at (k := k) (u := encStr x) (A6.out.1.2.1) (by rw [List.getElem?_map, hx]; rfl)
              subst hgo
              have hct := count_take hx nm
              have hcl : (L.take k).count nm ≤ 1048576 := Nat.le_trans List.count_le_length (by simp; omega)
              by_cases hxe : x = nm
              · have hxe' := hxe.symm
                subst hxe'
                rw [if_pos (by simp)] at hct
                have HCT := hid hct
                clear hct hx
                go_wp2
                go_roundw
                case rel => exact ⟨k + 1, by omega, by go_num, by rw [HCT.out]; go_num, by first | rfl | trivial⟩
                case measure => simp [intOf]; omega
              · rw [if_neg (by simpa using hxe)] at hct
                have HCT := hid hct
                have hne : ¬ (⟨x.toArray⟩ : ByteArray) = ⟨nm.toArray⟩ := fun e => hxe (by simpa using e)
                have hb1 : (x == nm) = false := by simpa using hxe
                have hb2 : decide (x = nm) = false := decide_eq_false hxe
                clear hct hx
                go_wp2
                go_roundw
                case rel => exact ⟨k + 1, by omega, by go_num, by rw [HCT.out]; simp, by first | rfl | trivial⟩
                case measure => simp [intOf]; omega
            · have hLn : (L.take k).count nm = 0 := by
                rw [List.take_of_length_le (by omega), HCN.out]
                exact if_neg (fun e => hne2 (HM.out.1 (List.mem_map.2 ⟨nm, e, rfl⟩)).2)
              rw [hLn]
              clear hLn
              go_wp2
              go_roundw
              case rel => exact ⟨i + 1, n', D6, by go_num, by omega, by omega, NX, hid A6.out.tail⟩
              case measure => simp [intOf]; omega
    · go_wp2
      go_ret
      exact ⟨rfl, RA.out.into (by simp)⟩

end Go.Proofs.Ytphcfkfdkaphbaa
