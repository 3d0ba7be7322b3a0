import Derived.Test.YtkcepkehgkkkbabGreatDoorJ44
import Derived.Test.YtkcepkehgkkkbabGreatDoorOnlyM
import Derived.Test.YtkcepkehgkkkbabGreatDoorJ29
import Derived.Test.YtkcepkehgkkkbabGreatDoorJ41
import Derived.Deep.DeepCutAuto
import Derived.Deep.CutBlock
import Derived.Deep.RegionHeld3
import Derived.Deep.QuietTactic
import Derived.BigQuiet
namespace Go.Proofs.YtkcepkehgkkkbabGreatDoor
open Go.RowKit
set_option linter.unusedVariables false

/-- A shelf of which the first i slots are laid. -/
structure LoadI (S L : St) (i : Nat) : Prop where
  len : L.length = 8
  low : ∀ (j : Nat) (a : Option Qs), j < i → S[j]? = some a → ∃ b, L[j]? = some b ∧ EqO a b
  high : ∀ j, i ≤ j → j < 8 → L[j]? = some none
  ok : ∀ (j : Nat) (q : Qs), L[j]? = some (some q) → OkQ 4 q
theorem LoadI.start (S : St) : LoadI S S0 0 := by
  have no : ∀ (i : Nat) (a : Option Qs), S0[i]? = some a → a = none := by
    intro i a h
    have hi := (List.getElem?_eq_some_iff.1 h).1
    have hi : i < 8 := hi
    have : i = 0 ∨ i = 1 ∨ i = 2 ∨ i = 3 ∨ i = 4 ∨ i = 5 ∨ i = 6 ∨ i = 7 := by omega
    rcases this with rfl | rfl | rfl | rfl | rfl | rfl | rfl | rfl <;> simpa using h.symm
  refine ⟨rfl, fun j a h => absurd h (Nat.not_lt_zero _), fun j _ hj => ?_, fun j q h => by cases no j _ h⟩
  have : j < S0.length := hj
  rw [List.getElem?_eq_getElem this]
  exact congrArg some (no j _ (List.getElem?_eq_getElem this))
theorem LoadI.skip {S L : St} {i : Nat} (h : LoadI S L i) (hi : i < 8) (hs : S[i]? = some none) : LoadI S L (i + 1) := by
  refine ⟨h.len, fun j a hj ha => ?_, fun j hj h8 => h.high j (by omega) h8, h.ok⟩
  rcases Nat.lt_or_ge j i with h1 | h1
  · exact h.low j a h1 ha
  · obtain rfl : j = i := by omega
    rw [hs] at ha
    cases ha
    exact ⟨none, h.high j (Nat.le_refl _) hi, trivial⟩
theorem LoadI.next {S L : St} {i : Nat} (h : LoadI S L i) (hi : i < 8) {q q' : Qs} (hs : S[i]? = some (some q)) (E : EqQ q q') (hk : OkQ 4 q') : LoadI S (L.set i (some q')) (i + 1) := by
  have hil : i < L.length := by rw [h.len]; exact hi
  refine ⟨by simp [h.len], fun j a hj ha => ?_, fun j hj h8 => by rw [List.getElem?_set_ne (by omega)]; exact h.high j (by omega) h8, fun j p hp => ?_⟩
  · rcases Nat.lt_or_ge j i with h1 | h1
    · rw [List.getElem?_set_ne (by omega)]
      exact h.low j a h1 ha
    · obtain rfl : j = i := by omega
      rw [hs] at ha
      cases ha
      exact ⟨_, List.getElem?_set_self hil, E⟩
  · by_cases hij : i = j
    · subst hij
      rw [List.getElem?_set_self hil] at hp
      cases hp
      exact hk
    · rw [List.getElem?_set_ne hij] at hp
      exact h.ok j p hp
theorem LoadI.find {N : Nat} {S L : St} {i : Nat} (h : LoadI S L i) (hS : OkS N S) {q : Qs} (hs : S[i]? = some (some q)) : findN (stV L) q.nm = -1 := by
  have h0 := (hS.each i q hs).nm0
  refine findN_none (fun p hp => ?_)
  obtain ⟨a, ha, rfl⟩ := List.mem_map.1 hp
  obtain ⟨j, hj, rfl⟩ := List.getElem_of_mem ha
  have hj8 : j < 8 := by rw [h.len] at hj; exact hj
  rw [beq_eq_false_iff_ne]
  intro e
  have e := toList_inj e
  rcases Nat.lt_or_ge j i with h1 | h1
  · obtain ⟨s, hsj⟩ : ∃ s, S[j]? = some s := ⟨_, List.getElem?_eq_getElem (by rw [hS.len]; exact hj8)⟩
    obtain ⟨b, h2, h3⟩ := h.low j s h1 hsj
    have h4 : L[j] = b := by
      rw [List.getElem?_eq_getElem hj] at h2
      exact Option.some.inj h2
    rw [h4, h3.nm] at e
    cases s with
    | none =>
      have : q.nm.size = 0 := by rw [← e]; rfl
      omega
    | some p =>
      have := hS.one j i p q hsj hs e
      omega
  · have h2 := h.high j h1 hj8
    rw [List.getElem?_eq_getElem hj] at h2
    rw [Option.some.inj h2] at e
    have : q.nm.size = 0 := by rw [← e]; rfl
    omega
theorem LoadI.done {N : Nat} {S L : St} (h : LoadI S L 8) (hS : OkS N S) : EqS S L ∧ OkS 4 L := by
  have E : EqS S L := ⟨by rw [h.len, hS.len], fun i a ha => h.low i a (by have := (List.getElem?_eq_some_iff.1 ha).1; rw [hS.len] at this; exact this) ha⟩
  refine ⟨E, h.len, h.ok, fun i j q q' hq hq' he => ?_⟩
  have hi := (List.getElem?_eq_some_iff.1 hq).1
  have hj := (List.getElem?_eq_some_iff.1 hq').1
  rw [h.len] at hi hj
  obtain ⟨s, hs⟩ : ∃ s, S[i]? = some s := ⟨_, List.getElem?_eq_getElem (by rw [hS.len]; exact hi)⟩
  obtain ⟨s', hs'⟩ : ∃ s, S[j]? = some s := ⟨_, List.getElem?_eq_getElem (by rw [hS.len]; exact hj)⟩
  obtain ⟨b, h1, h2⟩ := h.low i s hi hs
  obtain ⟨b', h1', h2'⟩ := h.low j s' hj hs'
  rw [hq] at h1
  rw [hq'] at h1'
  cases h1
  cases h1'
  cases s with
  | none => exact h2.elim
  | some p =>
    cases s' with
    | none => exact h2'.elim
    | some p' =>
      have e1 : q.nm = p.nm := EqQ.nm h2
      have e2 : q'.nm = p'.nm := EqQ.nm h2'
      exact hS.one i j p p' hs hs' (by rw [← e1, ← e2, he])
theorem slB_nil {N : Nat} {q : Qs} (h : OkQ N q) : slB (some q) ≠ [] := slot_pos h.nm16

set_option maxHeartbeats 3200000 in
set_option maxRecDepth 1000000 in
/-- Load, of a shelf's slots. -/
theorem Load_ok {N P : Nat} {S : St} (hS : OkS N S) {so : Option Addr} {sc : Nat} {ls : BL} (hls : ls.map Prod.snd = S.map slB) {cs : List Comp} {w : World} (h : All (slsL (.slice so 8 sc) ls ++ (shL P S ++ cs)) w) :
    Calls Tryz.prog 7 #[.slice so 8 sc] w fun e w' => ∃ P2 L, e = .returned (.tuple #[.pointer (some ⟨P2, 0, none⟩), .int .i64 0]) ∧ EqS S L ∧ OkS 4 L ∧ All (shL P2 L ++ (slsL (.slice so 8 sc) ls ++ (shL P S ++ cs))) w' := by
  have HS := hid hS
  have HLS := hid hls
  have C1 := hid (New_any h)
  have HR : Hid (∀ (L : St) (P2 : Nat) (W : World), All (shL P2 L ++ (slsL (.slice so 8 sc) ls ++ (shL P S ++ cs))) W → ∀ i, i < 8 → ∃ s, S[i]? = some s ∧ ∃ g u, so = some ⟨g, 0, none⟩ ∧ W.cell? ⟨g, i, none⟩ = some u ∧ g < W.heap.size ∧ Reads W u (slB s)) := hid (fun L P2 W A i hi => by
    have A2 : All (slsL (.slice so 8 sc) ls ++ (shL P2 L ++ (shL P S ++ cs))) W := A.perm (List.perm_append_comm_assoc _ _ _)
    obtain ⟨ao, c, e, _, hx⟩ := readsL_of A2
    have hl8 : (ls.map Prod.snd).length = 8 := by rw [hls, List.length_map, hS.len]
    obtain ⟨g, u, e1, e2, e3, e4⟩ := hx i (by rw [hl8]; exact hi)
    simp only [Value.slice.injEq] at e
    obtain ⟨rfl, _, _⟩ := e
    obtain ⟨s, hs⟩ : ∃ s, S[i]? = some s := ⟨_, List.getElem?_eq_getElem (by rw [hS.len]; exact hi)⟩
    refine ⟨s, hs, g, u, e1, e2, e3, ?_⟩
    have : (ls.map Prod.snd)[i]? = some (slB s) := by rw [hls, List.getElem?_map, hs]; rfl
    rw [List.getElem?_eq_getElem (by rw [hl8]; exact hi)] at this
    rw [← Option.some.inj this]
    exact e4)
  have HO : Hid (∀ (X : List Comp) (W : World), All (X ++ (shL P S ++ cs)) W → ∀ (i : Nat) (q : Qs), S[i]? = some (some q) → W.ownsMap Tryz.prog 9 rE q.b q.n q.D) := hid (fun X W A i q hq => by
    have A2 : All (shL P S ++ (X ++ cs)) W := A.perm (List.perm_append_comm_assoc _ _ _)
    exact (A2.shOut hq).tail.tail.1.2.1)
  clear hS hls h
  go_enter Tryz.func7, Tryz.ntmps7
  go_wp2_with fail
  refine C1.out.mono ?_
  rintro e w1 ⟨P2, rfl, A1, _, _⟩
  have A1 : Hid (All (shL P2 S0 ++ (slsL (.slice so 8 sc) ls ++ (shL P S ++ cs))) w1) := hid A1
  clear C1
  go_wp2
  go_loopw [15] (fun iv wr => ∃ (i : Nat) (L : St), i ≤ 8 ∧ iv = .int .i64 (i : Int) ∧ Hid (LoadI S L i) ∧ Hid (All (shL P2 L ++ (slsL (.slice so 8 sc) ls ++ (shL P S ++ cs))) wr)) (fun iv _ => 8 - (intOf iv).toNat)
  case atStart => exact ⟨0, S0, by omega, rfl, hid (LoadI.start S), A1⟩
  case round =>
    clear A1
    obtain ⟨i, L, hi, rfl, HL, AR⟩ := hrel
    by_cases hlt : i < 8
    · obtain ⟨s, hs, g, u, rfl, u1, hg, hrd⟩ := HR.out L P2 wr AR.out i hlt
      have hs := hid hs
      have hrd := hid hrd
      obtain ⟨ua, uc, rfl⟩ := hrd.out.form
      have l1 : decide ((i : Int) < 8) = true := decide_eq_true (by omega)
      have l2 : (i : Int) < 8 := by omega
      have l3 : (0 : Int) ≤ (i : Int) := by omega
      cases s with
      | none =>
        have HL2 := hid (HL.out.skip hlt hs.out)
        have e0 : (slB (none : Option Qs)).length = 0 := rfl
        rw [e0] at u1
        clear e0 hrd
        go_wp2
        go_roundw
        case rel => exact ⟨i + 1, L, by omega, by go_num, HL2, AR⟩
        case measure => simp [intOf]; omega
      | some q =>
        have hown := HO.out (shL P2 L ++ slsL (.slice (some ⟨g, 0, none⟩) 8 sc) ls) wr (by rw [List.append_assoc]; exact AR.out) i q hs.out
        have ok := HS.out.each i q hs.out
        have C2 := hid (readQ_ok AR.out (ok.qok hown) (Or.inl hrd.out))
        have FN := hid (HL.out.find HS.out hs.out)
        have HE := hid (fun iv b => ok.eqRead hown iv b)
        have HK := hid (fun iv b => ok.read hown iv b (M := 4) (Nat.le_refl _))
        have hlen : (slB (some q)).length ≠ 0 := fun e => slB_nil ok (List.length_eq_zero_iff.1 e)
        clear hown ok hrd
        generalize (slB (some q)).length = m at *
        have m1 : ((m : Int) == 0) = false := by simpa using hlen
        go_wp2_with fail
        refine C2.out.mono ?_
        rintro e w2 ⟨io, ic, bq, rfl, A2⟩
        have A3 := hid (A2.addBlk [.string q.nm, .int .i64 (q.first : Int), .slice io q.items.length ic, .map (some bq)] 68)
        clear A2 C2
        go_upto_region 9 with fail
        have eW : w2.alloc (.cells #[.string q.nm, .int .i64 (q.first : Int), .slice io q.items.length ic, .map (some bq)] 68) = w2.alloc (.cells [Value.string q.nm, .int .i64 (q.first : Int), .slice io q.items.length ic, .map (some bq)].toArray 68) := rfl
        rw [eW]
        clear eW
        generalize hw3 : w2.alloc (.cells [Value.string q.nm, .int .i64 (q.first : Int), .slice io q.items.length ic, .map (some bq)].toArray 68) = w3 at *
        generalize hKK : w2.heap.size = K at *
        clear hw3 hKK
        have k0 : w3.cell? ⟨K, 0, none⟩ = some (.string q.nm) := by rw [cell_at A3.out.1.2.1]; rfl
        have hb := A3.out.blk (g := P2) (vs := flat (stV L)) (t := 74) (by simp [shL])
        have hL8 : (stV L).length = 8 := by rw [stV_len]; exact HL.out.len
        have C3 := hid (find_any hb hL8 q.nm)
        rw [FN.out] at C3
        go_wp2_with fail
        refine C3.out.mono ?_
        rintro e w4 ⟨rfl, rfl⟩
        clear C3
        have hLi : L[i]? = some none := HL.out.high i (Nat.le_refl _) hlt
        have A4 : Hid (All (blkC P2 (flat (stV L)) 74 :: ownC 9 (.slice io q.items.length ic) (txtV q.items) :: mapC bq (grS q.D).length (putG (.map []) (grS q.D)) :: (restC L i ++ (slsL (.slice (some ⟨g, 0, none⟩) 8 sc) ls ++ (shL P S ++ cs)))) w4) := hid (by
          have a1 := A3.out.tail.perm (ds := blkC P2 (flat (stV L)) 74 :: ownC 9 (.slice io q.items.length ic) (txtV q.items) :: mapC bq (grS q.D).length (putG (.map []) (grS q.D)) :: (L.flatMap slC ++ (slsL (.slice (some ⟨g, 0, none⟩) 8 sc) ls ++ (shL P S ++ cs)))) (by
            have := List.perm_middle (a := blkC P2 (flat (stV L)) 74) (l₁ := [ownC 9 (.slice io q.items.length ic) (txtV q.items), mapC bq (grS q.D).length (putG (.map []) (grS q.D))]) (l₂ := L.flatMap slC ++ (slsL (.slice (some ⟨g, 0, none⟩) 8 sc) ls ++ (shL P S ++ cs)))
            simpa [shL] using this)
          refine a1.perm (((((flat_out hLi).append_right _).cons _).cons _).cons _))
        have hqi := stV_at hLi
        have A5 := hid ((A4.out.setQ hqi (qRead q (.slice io q.items.length ic) bq).v))
        have k0 : w4.cell? ⟨K, 0, none⟩ = some (.string q.nm) := by rw [cell_at A3.out.1.2.1]; rfl
        have k1 : w4.cell? ⟨K, 1, none⟩ = some (.int .i64 (q.first : Int)) := by rw [cell_at A3.out.1.2.1]; rfl
        have k2 : w4.cell? ⟨K, 2, none⟩ = some (.slice io q.items.length ic) := by rw [cell_at A3.out.1.2.1]; rfl
        have k3 : w4.cell? ⟨K, 3, none⟩ = some (.map (some bq)) := by rw [cell_at A3.out.1.2.1]; rfl
        have s0 : w4.cell? ⟨P2, i * 4, none⟩ = some (.string ⟨#[]⟩) := slot_cell hb hqi 0 (by omega) rfl
        have s1 : w4.cell? ⟨P2, i * 4 + 1, none⟩ = some (.int .i64 0) := slot_cell hb hqi 1 (by omega) rfl
        have s2 : w4.cell? ⟨P2, i * 4 + 2, none⟩ = some (.slice none 0 0) := slot_cell hb hqi 2 (by omega) rfl
        have s3 : w4.cell? ⟨P2, i * 4 + 3, none⟩ = some (.map none) := slot_cell hb hqi 3 (by omega) rfl
        have sf : ∀ j, w4.frozen? ⟨P2, j, none⟩ = false := fun j => free_at hb j
        have hPK : K ≠ P2 := by
          rintro rfl
          exact (A3.out.2.1 (blkC K (flat (stV L)) 74) (by simp [shL]) K (by simp [blkC])) (by simp [blkC])
        have hPK2 : P2 ≠ K := fun e => hPK e.symm
        have HLn := hid (HL.out.next hlt hs.out (HE.out (.slice io q.items.length ic) bq) (HK.out (.slice io q.items.length ic) bq))
        have A6 : Hid (∀ W, All (blkC P2 (flat ((stV L).set i (qRead q (.slice io q.items.length ic) bq).v)) 74 :: ownC 9 (.slice io q.items.length ic) (txtV q.items) :: mapC bq (grS q.D).length (putG (.map []) (grS q.D)) :: (restC L i ++ (slsL (.slice (some ⟨g, 0, none⟩) 8 sc) ls ++ (shL P S ++ cs)))) W → All (shL P2 (L.set i (some (qRead q (.slice io q.items.length ic) bq))) ++ (slsL (.slice (some ⟨g, 0, none⟩) 8 sc) ls ++ (shL P S ++ cs))) W) := hid (fun W a => All.shIn (by rw [HL.out.len]; exact hlt) a)
        clear A3 A4 hb HE HK
        go_upto_region 11 with fail
        go_region
        go_wp2
        go_roundw
        case rel => exact ⟨i + 1, _, by omega, by go_num, HLn, hid (A6.out _ A5.out.drew)⟩
        case measure => simp [intOf]; omega
    · obtain rfl : i = 8 := by omega
      have fin := hid (HL.out.done HS.out)
      have l1 : decide ((8 : Int) < (8 : Int)) = false := by decide
      go_wp2
      go_ret2
      exact ⟨P2, L, rfl, fin.out.1, fin.out.2, AR.out⟩
end Go.Proofs.YtkcepkehgkkkbabGreatDoor

namespace Go.Proofs.YtkcepkehgkkkbabGreatDoor
open Go.RowKit
set_option linter.unusedVariables false

theorem tclone_st {P i : Nat} {S : St} {q : Qs} (hq : S[i]? = some (some q)) {N : Nat} (hS : OkS N S) {X cs : List Comp} {W : World} (h : All (X ++ (shL P S ++ cs)) W) : Calls Tryz.prog 75 #[q.iv] W fun e W' => ∃ so sc, e = .returned (.slice so q.items.length sc) ∧ All (ownC 9 (.slice so q.items.length sc) (txtV q.items) :: (X ++ (shL P S ++ cs))) W' := by
  have h2 : All (shL P S ++ (X ++ cs)) W := h.perm (List.perm_append_comm_assoc _ _ _)
  have ho := h2.shOut hq
  have hrow : W.ownsRow 0 9 1 q.iv (txtV q.items).length (txtV q.items) := ho.tail.1.2.1
  obtain ⟨ao, c, hv⟩ := owns_form hrow
  have ht : Txts W q.iv q.items := by
    rw [hv] at ho ⊢
    have := txts_of (e := 9) ho (ao := ao) (n := (txtV q.items).length) (c := c) (l := q.items) (by simp)
    exact this
  refine (tclone_any ht (by have := (hS.each i q hq).len; omega)).mono ?_
  rintro e W' ⟨s', rfl, h3, h4⟩
  obtain ⟨so, sc, rfl⟩ := owns_form h3
  exact ⟨so, sc, rfl, h.addOwn (e := 9) h4 (by simpa using h3)⟩
theorem byName_st {P i : Nat} {S : St} {q : Qs} (hq : S[i]? = some (some q)) {N : Nat} (hS : OkS N S) {X cs : List Comp} {W : World} (h : All (X ++ (shL P S ++ cs)) W) : Calls Tryz.prog 76 #[.pointer (some ⟨P, i * 4, none⟩)] W fun e W' => ∃ so sc, e = .returned (.slice so (grS q.D).length sc) ∧ All (rowG (.slice so (grS q.D).length sc) (grS q.D) :: (X ++ (shL P S ++ cs))) W' := by
  have h2 : All (shL P S ++ (X ++ cs)) W := h.perm (List.perm_append_comm_assoc _ _ _)
  have ho := h2.shOut hq
  have h3 : All (mapC q.b q.n q.D :: blkC P (flat (stV S)) 74 :: (ownC 9 q.iv (txtV q.items) :: (restC S i ++ (X ++ cs)))) W := ho.perm ((List.perm_middle (a := mapC q.b q.n q.D) (l₁ := [blkC P (flat (stV S)) 74, ownC 9 q.iv (txtV q.items)])))
  have h4 := (hS.each i q hq).gs
  refine (byName_any h3 (stV_at hq) rfl (by omega)).mono ?_
  rintro e W' ⟨v, rfl, A⟩
  have ho2 : W'.ownsRow 0 111 2 v (grS q.D).length (cellsG (grS q.D)) := A.1.2.1
  obtain ⟨so, sc, rfl⟩ := owns_form ho2
  refine ⟨so, sc, rfl, ?_⟩
  have A2 : All (rowG (.slice so (grS q.D).length sc) (grS q.D) :: (shL P S ++ (X ++ cs))) W' := by
    have a1 := A.perm (ds := blkC P (flat (stV S)) 74 :: ownC 9 q.iv (txtV q.items) :: mapC q.b q.n q.D :: (restC S i ++ (rowG (.slice so (grS q.D).length sc) (grS q.D) :: (X ++ cs)))) (by
      have p1 := List.perm_middle (a := rowG (.slice so (grS q.D).length sc) (grS q.D)) (l₁ := blkC P (flat (stV S)) 74 :: ownC 9 q.iv (txtV q.items) :: mapC q.b q.n q.D :: restC S i) (l₂ := X ++ cs)
      refine List.Perm.trans ?_ p1.symm
      refine List.Perm.cons _ ?_
      have p2 := List.perm_middle (a := mapC q.b q.n q.D) (l₁ := [blkC P (flat (stV S)) 74, ownC 9 q.iv (txtV q.items)]) (l₂ := restC S i ++ (X ++ cs))
      simpa using p2.symm)
    have a2 := a1.shSame hq
    exact a2.perm (List.perm_middle (l₁ := shL P S))
  exact A2.perm (List.Perm.cons _ (List.perm_append_comm_assoc _ _ _))

set_option maxHeartbeats 3200000 in
set_option maxRecDepth 1000000 in
theorem told_st {P i : Nat} {S : St} {q : Qs} (hq : S[i]? = some (some q)) {N : Nat} (hS : OkS N S) {cs : List Comp} {w : World} (h : All (shL P S ++ cs) w) : Calls Tryz.prog 39 #[.pointer (some ⟨P, i * 4, none⟩)] w fun e w' => ∃ so sc go gc, e = .returned (.agg #[.string q.nm, .int .i64 (q.first : Int), .slice so q.items.length sc, .slice go (grS q.D).length gc]) ∧ All (rowG (.slice go (grS q.D).length gc) (grS q.D) :: ownC 9 (.slice so q.items.length sc) (txtV q.items) :: (shL P S ++ cs)) w' := by
  have A1 : Hid (All (blkC w.heap.size [.string ⟨#[]⟩, .int .i64 0, .slice none 0 0, .slice none 0 0] 78 :: (shL P S ++ cs)) (w.alloc (.cells [Value.string ⟨#[]⟩, .int .i64 0, .slice none 0 0, .slice none 0 0].toArray 78))) := hid (h.addBlk _ _)
  have C75 := hid (fun (X : List Comp) (W : World) (a : All (X ++ (shL P S ++ cs)) W) => tclone_st hq hS a)
  have C76 := hid (fun (X : List Comp) (W : World) (a : All (X ++ (shL P S ++ cs)) W) => byName_st hq hS a)
  have hiv : ∃ ao c, q.iv = .slice ao q.items.length c := by
    have hrow : w.ownsRow 0 9 1 q.iv (txtV q.items).length (txtV q.items) := (h.shOut hq).tail.1.2.1
    obtain ⟨ao, c, hv⟩ := owns_form hrow
    exact ⟨ao, c, by rw [hv]; simp [txtV]⟩
  obtain ⟨ia, ic, hiv⟩ := hiv
  rw [hiv] at C75
  have HC : Hid (∀ (X : List Comp) (W : World), All (X ++ (shL P S ++ cs)) W → W.cell? ⟨P, i * 4, none⟩ = some (.string q.nm) ∧ W.cell? ⟨P, i * 4 + 1, none⟩ = some (.int .i64 (q.first : Int)) ∧ W.cell? ⟨P, i * 4 + 2, none⟩ = some (.slice ia q.items.length ic)) := hid (fun X W a => by
    have hb := a.blk (g := P) (vs := flat (stV S)) (t := 74) (by simp [shL])
    have h0 := slot_cell hb (stV_at hq) 0 (by omega) rfl
    have h1 := slot_cell hb (stV_at hq) 1 (by omega) rfl
    have h2 := slot_cell hb (stV_at hq) 2 (by omega) rfl
    refine ⟨h0, h1, ?_⟩
    rw [← hiv]
    exact h2)
  have hPT : P < w.heap.size := h.1.2.2 P (by simp [blkC])
  clear hiv h hS hq
  generalize hql : q.items.length = ql at *
  generalize hgl : (grS q.D).length = gl at *
  go_enter Tryz.func39, Tryz.ntmps39
  go_upto_region 1 with fail
  have eW : w.alloc (.cells #[.string ⟨#[]⟩, .int .i64 0, .slice none 0 0, .slice none 0 0] 78) = w.alloc (.cells [Value.string ⟨#[]⟩, .int .i64 0, .slice none 0 0, .slice none 0 0].toArray 78) := rfl
  try rw [eW]
  clear eW
  have n1 : P ≠ w.heap.size := by omega
  have n2 : w.heap.size ≠ P := by omega
  generalize hw1 : w.alloc (.cells [Value.string ⟨#[]⟩, .int .i64 0, .slice none 0 0, .slice none 0 0].toArray 78) = w1 at *
  generalize hKK : w.heap.size = T at *
  clear hw1 hKK hPT
  obtain ⟨s0, s1, s2⟩ := HC.out [blkC T [.string ⟨#[]⟩, .int .i64 0, .slice none 0 0, .slice none 0 0] 78] w1 A1.out
  go_region_held3 (fun W => W.cell? ⟨P, i * 4, none⟩ = some (.string q.nm) ∧ W.cell? ⟨P, i * 4 + 1, none⟩ = some (.int .i64 (q.first : Int)) ∧ W.cell? ⟨P, i * 4 + 2, none⟩ = some (.slice ia ql ic)) (go_keep) (first
    | (go_at_call 75; refine (C75.out [blkC T [.string ⟨#[]⟩, .int .i64 0, .slice none 0 0, .slice none 0 0] 78] _ A1.out.drew).mono ?_; rintro e w2 ⟨so, sc, rfl, A2⟩; have A2 := hid A2; obtain ⟨s0, s1, s2⟩ := HC.out [ownC 9 (.slice so ql sc) (txtV q.items), blkC T [.string ⟨#[]⟩, .int .i64 0, .slice none 0 0, .slice none 0 0] 78] w2 A2.out)
    | (go_at_call 76; refine (C76.out [ownC 9 (.slice so ql sc) (txtV q.items), blkC T [.string ⟨#[]⟩, .int .i64 0, .slice none 0 0, .slice none 0 0] 78] _ A2.out).mono ?_; rintro e w3 ⟨go, gc, rfl, A3⟩; have A3 := hid A3; obtain ⟨s0, s1, s2⟩ := HC.out [rowG (.slice go gl gc) (grS q.D), ownC 9 (.slice so ql sc) (txtV q.items), blkC T [.string ⟨#[]⟩, .int .i64 0, .slice none 0 0, .slice none 0 0] 78] w3 A3.out; have hT := A3.out.tail.tail.1.2.1; have z0 : w3.cell? ⟨T, 0, none⟩ = some (.string ⟨#[]⟩) := (by rw [cell_at hT]; rfl); have z1 : w3.cell? ⟨T, 1, none⟩ = some (.int .i64 0) := (by rw [cell_at hT]; rfl); have z2 : w3.cell? ⟨T, 2, none⟩ = some (.slice none 0 0) := (by rw [cell_at hT]; rfl); have z3 : w3.cell? ⟨T, 3, none⟩ = some (.slice none 0 0) := (by rw [cell_at hT]; rfl); have zf : ∀ j, w3.frozen? ⟨T, j, none⟩ = false := (fun j => free_at hT j); clear hT))
  have A4 : All (blkC T [.string ⟨#[]⟩, .int .i64 0, .slice none 0 0, .slice none 0 0] 78 :: rowG (.slice go gl gc) (grS q.D) :: ownC 9 (.slice so ql sc) (txtV q.items) :: (shL P S ++ cs)) w3 := A3.out.perm (List.perm_middle (l₁ := [rowG (.slice go gl gc) (grS q.D), ownC 9 (.slice so ql sc) (txtV q.items)]))
  have A5 := hid ((((A4.setBlk 0 (.string q.nm)).setBlk 1 (.int .i64 (q.first : Int))).setBlk 2 (.slice so ql sc)).setBlk 3 (.slice go gl gc))
  clear s0 s1 s2 z0 z1 z2 z3 zf A4
  go_wp2
  generalize (((w3.setCell ⟨T, 0, none⟩ (.string q.nm)).setCell ⟨T, 1, none⟩ (.int .i64 (q.first : Int))).setCell ⟨T, 2, none⟩ (.slice so ql sc)).setCell ⟨T, 3, none⟩ (.slice go gl gc) = w4 at A5 ⊢
  have y0 : w4.cell? ⟨T, 0, none⟩ = some (.string q.nm) := by rw [cell_at A5.out.1.2.1]; rfl
  have y1 : w4.cell? ⟨T, 1, none⟩ = some (.int .i64 (q.first : Int)) := by rw [cell_at A5.out.1.2.1]; rfl
  have y2 : w4.cell? ⟨T, 2, none⟩ = some (.slice so ql sc) := by rw [cell_at A5.out.1.2.1]; rfl
  have y3 : w4.cell? ⟨T, 3, none⟩ = some (.slice go gl gc) := by rw [cell_at A5.out.1.2.1]; rfl
  refine bodyPost_ret (v := .agg #[.string q.nm, .int .i64 (q.first : Int), .slice so ql sc, .slice go gl gc]) (by simp only [results, Tryz.f39]; go_simp) rfl ?_
  exact ⟨so, sc, go, gc, rfl, A5.out.tail⟩
end Go.Proofs.YtkcepkehgkkkbabGreatDoor

namespace Go.Proofs.YtkcepkehgkkkbabGreatDoor
open Go.RowKit
set_option linter.unusedVariables false

/-- Groups that are read. -/
def GrpsAt (w : World) (v : Value) (gs : List Grp) : Prop := ∃ ao c, v = .slice ao gs.length c ∧ ∀ (i : Nat) (x : Grp), gs[i]? = some x → ∃ g o, ao = some ⟨g, o, none⟩ ∧ g < w.heap.size ∧ w.cell? ⟨g, o + i * 2, none⟩ = some (.string (strB x.1)) ∧ w.cell? ⟨g, o + i * 2 + 1, none⟩ = some (.int .i64 x.2)
theorem GrpsAt.later {w w' : World} {v : Value} {gs : List Grp} (h : GrpsAt w v gs) (hb : Below w.heap.size w w') : GrpsAt w' v gs := by
  obtain ⟨ao, c, h1, h4⟩ := h
  refine ⟨ao, c, h1, fun i x hx => ?_⟩
  obtain ⟨g, o, e, hg, h5, h6⟩ := h4 i x hx
  exact ⟨g, o, e, Nat.lt_of_lt_of_le hg hb.size, cell_under hb hg h5, cell_under hb hg h6⟩
theorem GrpsAt.form {w : World} {v : Value} {gs : List Grp} (h : GrpsAt w v gs) : ∃ ao c, v = .slice ao gs.length c := by
  obtain ⟨ao, c, h1, _⟩ := h
  exact ⟨ao, c, h1⟩

set_option maxHeartbeats 1600000 in
set_option maxRecDepth 1000000 in
theorem sameGroups_q {w : World} {s t : Value} {gs : List Grp} (hs : GrpsAt w s gs) (ht : GrpsAt w t gs) (hl : gs.length ≤ 1000) : Calls Tryz.prog 37 #[s, t] w fun e w' => e = .returned (.bool true) ∧ ∃ q, w' = w.drewN q := by
  have HS := hid hs
  have HT := hid ht
  obtain ⟨ao, c, rfl⟩ := hs.form
  obtain ⟨ao', c', rfl⟩ := ht.form
  have HLN : Hid (∀ i, i < gs.length → ∃ x, Hid (gs[i]? = some x)) := hid (fun i h => ⟨_, hid (List.getElem?_eq_getElem h)⟩)
  generalize hm : gs.length = m at *
  clear hs ht hm
  go_enter Tryz.func37, Tryz.ntmps37
  go_wp2
  go_loopw [5] (fun iv wr => ∃ (i n : Nat), i ≤ m ∧ iv = .int .i64 (i : Int) ∧ wr = w.drewN n) (fun iv _ => m - (intOf iv).toNat)
  case atStart => exact ⟨0, 0, by omega, rfl, rfl⟩
  case round =>
    obtain ⟨i, n, hi, rfl, hwr⟩ := hrel
    have B := hid (show Below w.heap.size w wr from by rw [hwr]; exact bdN w n)
    have HW := hid hwr
    clear hwr
    by_cases hlt : i < m
    · obtain ⟨x, hx⟩ := HLN.out i hlt
      obtain ⟨a1, c1, e1, h1⟩ := HS.out.later B.out
      simp only [Value.slice.injEq] at e1
      obtain ⟨rfl, _, _⟩ := e1
      obtain ⟨a2, c2, e2, h2⟩ := HT.out.later B.out
      simp only [Value.slice.injEq] at e2
      obtain ⟨rfl, _, _⟩ := e2
      obtain ⟨g, o, rfl, _, x0, x1⟩ := h1 i x hx.out
      obtain ⟨g', o', rfl, _, y0, y1⟩ := h2 i x hx.out
      clear h1 h2
      have l1 : decide ((i : Int) < (m : Int)) = true := decide_eq_true (by omega)
      have l2 : (i : Int) < (m : Int) := by omega
      have l3 : (0 : Int) ≤ (i : Int) := by omega
      have b0 : ((strB x.1).toList != (strB x.1).toList) = false := by simp
      have b1 : (x.2 != x.2) = false := by simp
      go_upto_region 6 with fail
      go_quiet (fail)
      go_wp2
      go_roundw
      case rel => exact ⟨i + 1, n + nq, by omega, by go_num, by rw [HW.out, World.drewN_drewN]⟩
      case measure => simp [intOf]; omega
    · obtain rfl : i = m := by omega
      have l1 : decide ((i : Int) < (i : Int)) = false := decide_eq_false (by omega)
      go_wp2
      go_ret
      exact ⟨rfl, n, HW.out⟩

/-- A queue as it is told. -/
structure TQ where
  nm : ByteArray
  first : Int
  items : List ByteArray
  gs : List Grp
/-- Queues that were told. -/
def TQsAt (w : World) (v : Value) (l : List TQ) : Prop := ∃ ao c, v = .slice ao l.length c ∧ ∀ (i : Nat) (x : TQ), l[i]? = some x → ∃ g o sv gv, ao = some ⟨g, o, none⟩ ∧ g < w.heap.size ∧ w.cell? ⟨g, o + i * 4, none⟩ = some (.string x.nm) ∧ w.cell? ⟨g, o + i * 4 + 1, none⟩ = some (.int .i64 x.first) ∧ w.cell? ⟨g, o + i * 4 + 2, none⟩ = some sv ∧ w.cell? ⟨g, o + i * 4 + 3, none⟩ = some gv ∧ Txts w sv x.items ∧ GrpsAt w gv x.gs
theorem TQsAt.later {w w' : World} {v : Value} {l : List TQ} (h : TQsAt w v l) (hb : Below w.heap.size w w') : TQsAt w' v l := by
  obtain ⟨ao, c, h1, h4⟩ := h
  refine ⟨ao, c, h1, fun i x hx => ?_⟩
  obtain ⟨g, o, sv, gv, e, hg, h5, h6, h7, h8, h9, h10⟩ := h4 i x hx
  exact ⟨g, o, sv, gv, e, Nat.lt_of_lt_of_le hg hb.size, cell_under hb hg h5, cell_under hb hg h6, cell_under hb hg h7, cell_under hb hg h8, h9.later hb, h10.later hb⟩
theorem TQsAt.form {w : World} {v : Value} {l : List TQ} (h : TQsAt w v l) : ∃ ao c, v = .slice ao l.length c := by
  obtain ⟨ao, c, h1, _⟩ := h
  exact ⟨ao, c, h1⟩

set_option maxHeartbeats 1600000 in
set_option maxRecDepth 1000000 in
theorem sameQueues_q {w : World} {s t : Value} {l : List TQ} (hs : TQsAt w s l) (ht : TQsAt w t l) (hl : l.length ≤ 1000) (hi : ∀ x ∈ l, x.items.length ≤ 1000 ∧ x.gs.length ≤ 1000) : Calls Tryz.prog 13 #[s, t] w fun e w' => e = .returned (.bool true) ∧ ∃ q, w' = w.drewN q := by
  have HS := hid hs
  have HT := hid ht
  have HI := hid hi
  obtain ⟨ao, c, rfl⟩ := hs.form
  obtain ⟨ao', c', rfl⟩ := ht.form
  have HLN : Hid (∀ i, i < l.length → ∃ x, Hid (l[i]? = some x)) := hid (fun i h => ⟨_, hid (List.getElem?_eq_getElem h)⟩)
  generalize hm : l.length = m at *
  clear hs ht hm hi
  go_enter Tryz.func13, Tryz.ntmps13
  go_wp2
  go_loopw [5] (fun iv wr => ∃ (i n : Nat), i ≤ m ∧ iv = .int .i64 (i : Int) ∧ wr = w.drewN n) (fun iv _ => m - (intOf iv).toNat)
  case atStart => exact ⟨0, 0, by omega, rfl, rfl⟩
  case round =>
    obtain ⟨i, n, hi, rfl, hwr⟩ := hrel
    have B := hid (show Below w.heap.size w wr from by rw [hwr]; exact bdN w n)
    have HW := hid hwr
    clear hwr
    by_cases hlt : i < m
    · obtain ⟨x, hx⟩ := HLN.out i hlt
      obtain ⟨a1, c1, e1, h1⟩ := HS.out.later B.out
      simp only [Value.slice.injEq] at e1
      obtain ⟨rfl, _, _⟩ := e1
      obtain ⟨a2, c2, e2, h2⟩ := HT.out.later B.out
      simp only [Value.slice.injEq] at e2
      obtain ⟨rfl, _, _⟩ := e2
      obtain ⟨g, o, sv, gv, rfl, _, x0, x1, x2, x3, x4, x5⟩ := h1 i x hx.out
      obtain ⟨g', o', sv', gv', rfl, _, y0, y1, y2, y3, y4, y5⟩ := h2 i x hx.out
      clear h1 h2
      obtain ⟨b1, b2⟩ := HI.out x (List.mem_of_getElem? hx.out)
      have C36 := hid (fun k => sameTexts_q (x4.later (bdN wr k)) (y4.later (bdN wr k)) (by omega))
      have C37 := hid (fun k => sameGroups_q (x5.later (bdN wr k)) (y5.later (bdN wr k)) (by omega))
      obtain ⟨sa, sc, rfl, zz⟩ := x4
      obtain ⟨sa', sc', rfl, zz'⟩ := y4
      clear zz zz'
      obtain ⟨ga, gc, rfl⟩ := x5.form
      obtain ⟨ga', gc', rfl⟩ := y5.form
      clear x5 y5
      generalize x.items.length = il at *
      generalize x.gs.length = gl at *
      have l1 : decide ((i : Int) < (m : Int)) = true := decide_eq_true (by omega)
      have l2 : (i : Int) < (m : Int) := by omega
      have l3 : (0 : Int) ≤ (i : Int) := by omega
      have b0 : (x.nm.toList != x.nm.toList) = false := by simp
      have b3 : (x.first != x.first) = false := by simp
      go_upto_region 6 with fail
      go_quiet (first | (go_at_call 36; exact Calls.quiet_of (C36.out _)) | (go_at_call 37; exact Calls.quiet_of (C37.out _)))
      go_wp2
      go_roundw
      case rel => exact ⟨i + 1, n + nq, by omega, by go_num, by rw [HW.out, World.drewN_drewN]⟩
      case measure => simp [intOf]; omega
    · obtain rfl : i = m := by omega
      have l1 : decide ((i : Int) < (i : Int)) = false := decide_eq_false (by omega)
      go_wp2
      go_ret
      exact ⟨rfl, n, HW.out⟩
end Go.Proofs.YtkcepkehgkkkbabGreatDoor
